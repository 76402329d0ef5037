package choose_test

import (
	"fmt"
	"math/rand"
	"slices"
	"sort"
	"testing"

	"lictor/api"
	"lictor/choose"
	"lictor/wire"
)

// unionOf is the words' own: all commands of some sets, by their names.
func unionOf(l []api.Msg) ([]api.Cmd, api.Errno) {
	byName := map[int]api.Cmd{}
	for _, m := range l {
		for _, c := range m.V.P {
			if other, has := byName[c.ID]; has && other != c {
				return nil, api.ErrTwice
			}
			byName[c.ID] = c
		}
	}
	var all []api.Cmd
	for _, c := range byName {
		all = append(all, c)
	}
	if len(all) > mostPreds {
		return nil, api.ErrFull
	}
	sort.Slice(all, func(i, k int) bool { return all[i].ID < all[k].ID })
	return all, api.OK
}

// freshOf is the words' own value above all.
func freshOf(l []api.Msg) (api.Value, api.Errno) {
	suggested := []int{0}
	for _, m := range l {
		if !wire.Right(m) {
			return api.Value{}, api.ErrArg
		}
		suggested = append(suggested, m.S)
	}
	sort.Ints(suggested)
	greatest := suggested[len(suggested)-1]
	if greatest == 0 {
		return api.Value{}, api.ErrArg
	}
	p, err := unionOf(l)
	if err != api.OK {
		return api.Value{}, err
	}
	return value(greatest, p...), api.OK
}

// bySort are those of a sort.
func bySort(l []api.Msg, s api.Sort) []api.Msg {
	var of []api.Msg
	for _, m := range l {
		if m.Sort == s {
			of = append(of, m)
		}
	}
	return of
}

// arePromises is the words' own: whether messages are a cluster's.
func arePromises(n int, l []api.Msg) bool {
	promises := bySort(l, api.Promise)
	if n < leastNodes || n > mostNodes || len(l) < classic(n) || len(promises)+len(bySort(l, api.Stable)) < len(l) {
		return false
	}
	who, asks, bals := map[int]int{}, map[api.Cmd]int{}, map[int]int{}
	for _, m := range l {
		who[m.From]++
		asks[m.Cmd]++
		if !wire.Right(m) || m.From >= n {
			return false
		}
	}
	for _, m := range promises {
		bals[m.Bal]++
	}
	return len(who) == len(l) && len(asks) == 1 && len(bals) <= 1
}

// left is the words' own: what promises leave.
func left(n int, l []api.Msg) (choose.Choice, api.Errno) {
	if !arePromises(n, l) {
		return choose.Choice{}, api.ErrArg
	}
	if of := bySort(l, api.Stable); len(of) > 0 {
		return choose.Choice{Kind: choose.Done, V: of[0].V}, api.OK
	}
	byBallot := slices.Clone(l)
	sort.SliceStable(byBallot, func(i, k int) bool { return byBallot[i].AB > byBallot[k].AB })
	if byBallot[0].AB > 0 {
		return choose.Choice{Kind: choose.Bound, V: byBallot[0].A}, api.OK
	}
	if f, ok := enough(n, l); ok {
		return choose.Choice{Kind: choose.Exact, V: f}, api.OK
	}
	v, err := freshOf(l)
	if err != api.OK {
		return choose.Choice{}, err
	}
	return choose.Choice{Kind: choose.Free, V: v}, api.OK
}

// enough is the words' own: the first fast value that comes often enough, if none is freed.
func enough(n int, l []api.Msg) (api.Value, bool) {
	var order []string
	of, many := map[string]api.Value{}, map[string]int{}
	for _, m := range l {
		if m.Flag {
			return api.Value{}, false
		}
		if m.F.T == 0 {
			continue
		}
		text := fmt.Sprint(m.F)
		if many[text]++; many[text] == 1 {
			order, of[text] = append(order, text), m.F
		}
	}
	for _, text := range order {
		if many[text] >= needed(n, len(l)) {
			return of[text], true
		}
	}
	return api.Value{}, false
}

// dice make rows, the same ones each time.
type dice struct {
	*rand.Rand
	all []api.Cmd // one more than a set has
	odd []api.Msg // that may not be
}

// once tells one time out of many that it is so.
func (d dice) once(many int) bool { return d.Intn(many) == 0 }

// value is one of few, so that several are the same.
func (d dice) value() api.Value {
	sets := [][]api.Cmd{nil, {place(17, 5)}, {place(17, 6)}, {place(17, 5), place(18, 5)}, {}}
	return value(16+d.Intn(2), sets[d.Intn(len(sets))]...)
}

// message is a replica's, most often a promise; some of what it has beside that is as seldom as the row asks.
func (d dice) message(node, seldom int) api.Msg {
	m := promise(node, at(1+d.Intn(4), d.Intn(9)), [][]api.Cmd{nil, {place(17, 5)}, {place(18, 5), cancel(33, 17)}, d.all[:3]}[d.Intn(4)]...)
	m.To = d.Intn(9)
	if d.once(2) {
		m.F = value(16+d.Intn(seldom)/4, place(17, 5))
	}
	if d.once(4) {
		m.A = d.value()
	}
	if d.once(seldom) {
		m.F = d.value()
	}
	if d.once(2 * seldom) {
		m.Flag = true
	}
	if d.once(2 * seldom) {
		m.AB, m.A = d.Intn(4), d.value()
	}
	if d.once(4 * seldom) {
		m.V.P = [][]api.Cmd{d.all[:mostPreds], d.all[1:], {place(17, 6)}}[d.Intn(3)]
	}
	if d.once(4 * seldom) {
		m = ballot(stable(node, d.value()), d.Intn(3))
	}
	return m
}

// spoilt is a message with another thing that may break its row.
func (d dice) spoilt(m api.Msg) api.Msg {
	switch d.Intn(7) {
	case 0:
		m.From = d.Intn(9)
	case 1:
		m.Cmd = place(49+d.Intn(2), 5+d.Intn(2))
	case 2:
		m.Bal = asked + d.Intn(2)
	case 3:
		m = from(d.odd[d.Intn(len(d.odd))], m.From)
	case 4:
		l := others(m.From)
		m = l[d.Intn(len(l))]
	case 5:
		m.S = d.Intn(50)
	case 6:
		m.V.T = d.Intn(50)
	}
	return m
}

// row is a cluster's number, and messages.
func (d dice) row() (int, []api.Msg) {
	n := leastNodes + d.Intn(mostNodes-leastNodes+1)
	seldom := 1 + d.Intn(30)
	q := classic(n) + d.Intn(n-classic(n)+1)
	if d.once(30) {
		q = d.Intn(n + 1)
	}
	var l []api.Msg
	for _, node := range d.Perm(n)[:q] {
		l = append(l, d.message(node, seldom))
	}
	for i := range l {
		if d.once(10 * len(l)) {
			l[i] = d.spoilt(l[i])
		}
	}
	if d.once(60) {
		n = d.Intn(12)
	}
	return n, l
}

// TestRows is P15.1 (H1): many rows, against the words' own; each kind and each error comes often.
func TestRows(t *testing.T) {
	d := dice{rand.New(rand.NewSource(15)), many(mostPreds + 1), mayNot(0)}
	kinds, errs, fresh := map[choose.Kind]int{}, map[api.Errno]int{}, map[api.Errno]int{}
	for i := range 40000 {
		n, l := d.row()
		want, wrong := left(n, l)
		got, err := choose.Choose(n, l...)
		if got.Kind != want.Kind || !sameValue(got.V, want.V) || err != wrong {
			t.Fatalf("row %d, of %d, %s: %s %d, not %s %d", i, n, short(l), short(got), err, short(want), wrong)
		}
		if errs[err]++; err == api.OK {
			kinds[got.Kind]++
		}
		above, wrong := freshOf(l)
		v, err := choose.Fresh(l...)
		if !sameValue(v, above) || err != wrong {
			t.Fatalf("row %d, %s: %s %d, not %s %d", i, short(l), short(v), err, short(above), wrong)
		}
		fresh[err]++
	}
	for _, k := range []choose.Kind{choose.Done, choose.Bound, choose.Exact, choose.Free} {
		if kinds[k] < 300 {
			t.Errorf("%d comes %d times", k, kinds[k])
		}
	}
	for _, e := range []api.Errno{api.OK, api.ErrArg, api.ErrTwice, api.ErrFull} {
		if errs[e] < 100 || fresh[e] < 100 {
			t.Errorf("error %d comes %d, and %d times", e, errs[e], fresh[e])
		}
	}
}
