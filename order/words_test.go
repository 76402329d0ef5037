package order_test

import (
	"math/rand"
	"slices"
	"testing"

	"lictor/api"
	"lictor/entry"
	"lictor/order"
)

// firstOf is where the first entry of a name stands; -1, if none does.
func firstOf(l []entry.Entry, name int) int {
	return slices.IndexFunc(l, func(e entry.Entry) bool { return e.Cmd.ID == name })
}

// isReady is what the words say of an entry at a place, one by one.
func isReady(l []entry.Entry, i int, had []int) bool {
	e := &l[i]
	if firstOf(l, e.Cmd.ID) != i || !e.Done || slices.Contains(had, e.Cmd.ID) {
		return false
	}
	for _, c := range e.V.P {
		k := firstOf(l, c.ID)
		if k < 0 || !l[k].Done {
			return false
		}
		if l[k].V.T > e.V.T {
			continue
		}
		if !slices.Contains(had, c.ID) {
			return false
		}
	}
	return true
}

// nextOf is where the words' own next one stands; -1, if none is ready.
func nextOf(l []entry.Entry, had []int) int {
	next := -1
	for i := range l {
		if isReady(l, i, had) && (next < 0 || l[i].V.T < l[next].V.T) {
			next = i
		}
	}
	return next
}

// allOf are the words' own commands that come, and the names that wait.
func allOf(l []entry.Entry, had []int) ([]api.Cmd, []int) {
	had = slices.Clone(had)
	var all []api.Cmd
	for i := nextOf(l, had); i >= 0; i = nextOf(l, had) {
		all = append(all, l[i].Cmd)
		had = append(had, l[i].Cmd.ID)
	}
	var waits []int
	for i, e := range l {
		if firstOf(l, e.Cmd.ID) == i && e.Done && !slices.Contains(had, e.Cmd.ID) {
			waits = append(waits, e.Cmd.ID)
		}
	}
	return all, waits
}

// tally counts what came, so that a test can tell that it was no empty one.
type tally struct{ asked, told, waiting, both, later, tied int }

// holds holds what is told of entries against the words.
func (n *tally) holds(t *testing.T, l []entry.Entry, had []int) {
	all, waits := allOf(l, had)
	got, left := order.All(l, had...), order.Waits(l, had...)
	c, ok := order.Next(l, had...)
	if !slices.Equal(got, all) || !slices.Equal(left, waits) {
		t.Fatalf("of%s, of which %v are delivered: All %v, want %v; Waits %v, want %v",
			short(l), had, names(got), names(all), left, waits)
	}
	if ok != (len(all) > 0) || ok && c != all[0] || !ok && c != (api.Cmd{}) {
		t.Fatalf("of%s, of which %v are delivered: Next %v %v, want the first one of %v", short(l), had, c, ok, names(all))
	}
	n.asked++
	n.count(l, all, waits)
}

func (n *tally) count(l []entry.Entry, all []api.Cmd, waits []int) {
	if len(all) > 1 {
		n.told++
	}
	if len(waits) > 0 {
		n.waiting++
	}
	if len(all) > 0 && len(waits) > 0 {
		n.both++
	}
	for i := range all[:max(0, len(all)-1)] {
		a, b := firstOf(l, all[i].ID), firstOf(l, all[i+1].ID)
		if l[a].V.T > l[b].V.T {
			n.later++
		}
		if l[a].V.T == l[b].V.T && a > b {
			n.tied++
		}
	}
}

// often asks that each case came so often, and that one came behind another one of its time that stands behind it.
func (n *tally) often(t *testing.T, least, tied int) {
	t.Helper()
	if n.told < least || n.waiting < least || n.both < least || n.tied < tied {
		t.Errorf("came too seldom: %+v", *n)
	}
	// What comes next never has a lesser timestamp than what came: what it waits for has no greater one.
	if n.later > 0 {
		t.Errorf("%d came behind ones with greater timestamps", n.later)
	}
}

// subsets are all lists of some of these names.
func subsets(l []int) [][]int {
	all := [][]int{nil}
	for _, id := range l {
		for _, s := range slices.Clone(all) {
			all = append(all, append(slices.Clone(s), id))
		}
	}
	return all
}

// kindsOf are entries of a name, of each kind, with these timestamps and sets; each has a command of its own.
func kindsOf(name int, times []int, sets [][]int) []entry.Entry {
	l := rows(fresh(name))
	for _, at := range times {
		for _, p := range sets {
			e := done(name, at, p...)
			e.Cmd.Qty += len(l)
			l = append(l, e)
		}
	}
	l[0].V.T = times[0]
	return l
}

// TestAllPairs are all rows of none, one and two entries, of three names, with any sets, whatever is delivered.
func TestAllPairs(t *testing.T) {
	all := []int{16, 17, 33, 34}
	var kinds []entry.Entry
	for _, name := range all[:3] {
		kinds = append(kinds, kindsOf(name, []int{32, 33, 34}, subsets(all))...)
	}
	var n tally
	for _, had := range subsets(all) {
		n.holds(t, nil, had)
		for _, a := range kinds {
			n.holds(t, rows(a), had)
			for _, b := range kinds {
				n.holds(t, rows(a, b), had)
			}
		}
	}
	n.often(t, 700, 70)
}

// TestAllThrees are all rows of three entries, of three names, which may stand twice.
func TestAllThrees(t *testing.T) {
	sets := [][]int{nil, {16}, {17}, {33}, {34}, {16, 17}, {17, 33}}
	var kinds []entry.Entry
	for _, name := range []int{16, 17, 33} {
		kinds = append(kinds, kindsOf(name, []int{32, 33}, sets)...)
	}
	var n tally
	for _, had := range [][]int{nil, {17}, {34, 16, 34}} {
		for _, a := range kinds {
			for _, b := range kinds {
				for _, c := range kinds {
					n.holds(t, rows(a, b, c), had)
				}
			}
		}
	}
	n.often(t, 900, 900)
}

// TestAllFours are four commands that are done, with any of the others among their P, with one timestamp or two.
func TestAllFours(t *testing.T) {
	all := []int{19, 33, 17, 18}
	var kinds [4][]entry.Entry
	for i, name := range all {
		others := slices.Delete(slices.Clone(all), i, i+1)
		kinds[i] = kindsOf(name, []int{32, 33}, subsets(others))[1:]
	}
	var n tally
	for k := range 1 << 16 {
		l := rows(kinds[0][k&15], kinds[1][k>>4&15], kinds[2][k>>8&15], kinds[3][k>>12])
		n.holds(t, l, nil)
		n.holds(t, l, []int{17})
	}
	n.often(t, 900, 900)
}

// anyRow are entries of some names, of any kind, each done one with some of the others among its P.
func anyRow(r *rand.Rand, size int) []entry.Entry {
	var l []entry.Entry
	times := 1 + r.Intn(2*size)
	for range size {
		name := r.Intn(size + 2)
		e := done(name, 16+r.Intn(times))
		for range r.Intn(1 + r.Intn(5)) {
			e.V.P = append(e.V.P, ask(r.Intn(size+2)))
		}
		e.Cmd.Symbol, e.Cmd.Qty = r.Intn(4), r.Intn(9)
		if r.Intn(12) == 0 {
			e.Done = false
		}
		l = append(l, e)
	}
	return l
}

// TestLongRows are long rows of any entries, of which any names are delivered.
func TestLongRows(t *testing.T) {
	r := rand.New(rand.NewSource(17))
	var n tally
	for range 6000 {
		l := anyRow(r, 1+r.Intn(30))
		var had []int
		for range r.Intn(1 + r.Intn(20)) {
			had = append(had, r.Intn(len(l)+2))
		}
		n.holds(t, l, had)
	}
	n.often(t, 900, 200)
}

// TestOneByOne has Next tell, one by one, what All tells, and Waits what All never does.
func TestOneByOne(t *testing.T) {
	r := rand.New(rand.NewSource(18))
	steps := 0
	for range 3000 {
		l := anyRow(r, 1+r.Intn(25))
		had := []int{r.Intn(len(l)), r.Intn(len(l))}[:r.Intn(3)]
		all, waits := order.All(l, had...), order.Waits(l, had...)
		for i, want := range all {
			c, ok := order.Next(l, had...)
			if !ok || c != want {
				t.Fatalf("of%s, of which %v are delivered: Next %v %v, want %v", short(l), had, c, ok, want)
			}
			had = append(had, c.ID)
			if rest := order.All(l, had...); !slices.Equal(rest, all[i+1:]) {
				t.Fatalf("of%s, of which %v are delivered: All %v, want %v", short(l), had, rest, all[i+1:])
			}
			if left := order.Waits(l, had...); !slices.Equal(left, waits) {
				t.Fatalf("of%s, of which %v are delivered: Waits %v, want %v", short(l), had, left, waits)
			}
			steps++
		}
		if c, ok := order.Next(l, had...); ok || c != (api.Cmd{}) {
			t.Fatalf("of%s, of which %v are delivered: Next %v %v, want none", short(l), had, c, ok)
		}
	}
	if steps < 9000 {
		t.Errorf("only %d steps", steps)
	}
}
