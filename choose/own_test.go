package choose_test

import (
	"fmt"
	"math"
	"slices"
	"testing"

	"lictor/api"
	"lictor/choose"
	"lictor/wire"
)

// leaving are promises of three replicas, that leave each of the four kinds, in their order: their sets are not empty.
func leaving() [][]api.Msg {
	a, b, c := place(17, 5), cancel(33, 17), place(34, 1)
	l := msgs(promise(2, 32, a, b), promise(0, 33, c), promise(1, 34, a))
	exact := slices.Clone(l)
	for i := range exact {
		exact[i].F = value(17, a, b, c)
	}
	return [][]api.Msg{
		with(exact, 1, stable(0, value(16, a, c))),
		with(exact, 2, accepted(exact[2], 3, value(18, b, c))),
		exact,
		l,
	}
}

// roomy is a set with room behind its length, in which commands lie that nobody may look at.
func roomy(l []api.Cmd) []api.Cmd {
	all := append(slices.Clone(l), place(16, 1), api.Cmd{ID: 17, Kind: 9}, api.Cmd{ID: -1})
	return all[:len(l):len(all)]
}

// roomyMsgs are messages whose sets have such room, and behind which a message lies that may not be.
func roomyMsgs(l []api.Msg) []api.Msg {
	var all []api.Msg
	for _, m := range l {
		m.V.P, m.A.P, m.F.P = roomy(m.V.P), roomy(m.A.P), roomy(m.F.P)
		all = append(all, m)
	}
	return append(all, api.Msg{Sort: 12, S: 9})[:len(l)]
}

// whole is all that lies in messages' memory, also behind their length, and that of their sets.
func whole(l []api.Msg) string {
	text := fmt.Sprint(len(l), l[:cap(l)])
	for _, m := range l {
		for _, p := range [][]api.Cmd{m.V.P, m.A.P, m.F.P} {
			text += fmt.Sprint(len(p), p[:cap(p)])
		}
	}
	return text
}

// spoil writes into a set, also behind its length.
func spoil(p []api.Cmd) {
	for i := range p[:cap(p)] {
		p[:cap(p)][i] = api.Cmd{ID: -7}
	}
}

// TestHandedIn is rule 4: what is handed in stays as it was, and behind its length, too, where nothing is looked at.
func TestHandedIn(t *testing.T) {
	for k, l := range leaving() {
		in := roomyMsgs(l)
		before := whole(in)
		want, _ := left(3, l)
		leaves(t, 3, in, choose.Kind(k), want.V)
		above, _ := freshOf(l)
		fresh(t, in, above)
		if whole(in) != before {
			t.Errorf("kind %d: wrote into %s", k, short(in))
		}
		bad := slices.Clone(in)
		bad[0].Bal = 9
		before = whole(bad)
		choose.Choose(3, bad...)
		choose.Choose(2, bad...)
		choose.Fresh(slices.Concat(bad, msgs(api.Msg{}))...)
		if whole(bad) != before {
			t.Errorf("kind %d: wrote into %s", k, short(bad))
		}
	}
}

// TestOwn is rule 4: what is told shares nothing with what was handed in, nor with what was told ahead of it.
func TestOwn(t *testing.T) {
	for k, l := range leaving() {
		in := roomyMsgs(l)
		before := whole(in)
		want, _ := left(3, l)
		one, _ := choose.Choose(3, in...)
		two, _ := choose.Choose(3, in...)
		if len(one.V.P) < 2 {
			t.Fatalf("kind %d: told %s", k, short(one))
		}
		spoil(one.V.P)
		if whole(in) != before || two.Kind != choose.Kind(k) || !sameValue(two.V, want.V) {
			t.Errorf("kind %d: wrote into %s, or %s", k, short(in), short(two))
		}
		above, _ := freshOf(l)
		v, _ := choose.Fresh(in...)
		w, _ := choose.Fresh(in...)
		spoil(v.P)
		if whole(in) != before || !sameValue(w, above) {
			t.Errorf("kind %d: wrote into %s, or %s", k, short(in), short(w))
		}
		// Nor does it change with what was handed in.
		for i := range in {
			spoil(in[i].V.P)
			spoil(in[i].A.P)
			spoil(in[i].F.P)
			in[i] = api.Msg{}
		}
		if !sameValue(two.V, want.V) || !sameValue(w, above) {
			t.Errorf("kind %d: %s, and %s changed", k, short(two), short(w))
		}
	}
	// Of one message alone the union is a set of its own, too.
	p := cmds(place(17, 5), place(18, 5))
	v, _ := choose.Fresh(promise(0, 16, p...))
	spoil(v.P)
	if !slices.Equal(p, cmds(place(17, 5), place(18, 5))) {
		t.Errorf("wrote %v", p)
	}
}

// answer is what both calls answer.
func answer(n int, l []api.Msg) string {
	c, err := choose.Choose(n, l...)
	v, wrong := choose.Fresh(l...)
	return fmt.Sprint(c, err, v, wrong)
}

// TestAnyNumbers is P1: both calls end, at the numbers at which the machine's own end, and of very many messages.
func TestAnyNumbers(t *testing.T) {
	ends := []int{math.MinInt, math.MinInt + 1, math.MinInt32, -1, 0, 1, math.MaxInt32, math.MaxUint32, math.MaxInt - 1, math.MaxInt}
	for _, a := range ends {
		for _, b := range ends {
			c := api.Cmd{ID: a, Kind: api.Kind(b), Symbol: b, Target: a, Side: api.Side(b), Price: a, Qty: b}
			m := api.Msg{Sort: api.Promise, From: a, To: b, Bal: a, Cmd: c, V: value(b, c, c), Flag: true, S: a, AB: b, A: value(a, c), F: value(b, c)}
			for n := -1; n <= 10; n++ {
				wrong(t, n, slices.Repeat(msgs(m), max(n, 0)), api.ErrArg)
				wrong(t, n, append(plain(8), m), api.ErrArg)
				wrong(t, n, append(plain(8), from(m, 8)), api.ErrArg)
			}
			wrong(t, a, plain(9), api.ErrArg)
			noFresh(t, append(plain(8), m), api.ErrArg)
		}
	}
	long := slices.Repeat(plain(9), 5000)
	for n := -1; n <= 10; n++ {
		wrong(t, n, long, api.ErrArg)
		wrong(t, n, slices.Repeat(msgs(stable(0, value(16))), 5000), api.ErrArg)
		wrong(t, n, make([]api.Msg, 5000), api.ErrArg)
	}
	fresh(t, long, value(at(18, 8)))
}

// TestAgain is P2: each row is answered the same when it is asked again, with others asked between, whatever memory it has.
func TestAgain(t *testing.T) {
	type row struct {
		n int
		l []api.Msg
	}
	var rows []row
	for k, l := range leaving() {
		for n := 1; n <= 11; n++ {
			rows = append(rows, row{n, l}, row{n, backwards(l)}, row{n, l[:k]}, row{n, with(l, 1, mayNot(1)[3*n+k])})
		}
	}
	var told []string
	for _, r := range rows {
		told = append(told, answer(r.n, r.l))
	}
	for i := len(rows) - 1; i >= 0; i-- {
		if got := answer(rows[i].n, rows[i].l); got != told[i] {
			t.Fatalf("row %d: %.300s, then %.300s", i, told[i], got)
		}
		if got := answer(rows[i].n, roomyMsgs(rows[i].l)); got != told[i] {
			t.Fatalf("row %d, with room: %.300s, then %.300s", i, told[i], got)
		}
		empty := slices.Clone(rows[i].l)
		for k := range empty {
			m := &empty[k]
			m.V.P, m.A.P, m.F.P = append([]api.Cmd{}, m.V.P...), append([]api.Cmd{}, m.A.P...), append([]api.Cmd{}, m.F.P...)
			if !wire.Same(*m, rows[i].l[k]) {
				t.Fatalf("row %d: not the same", i)
			}
		}
		if got := answer(rows[i].n, empty); got != told[i] {
			t.Fatalf("row %d, with none for nil: %.300s, then %.300s", i, told[i], got)
		}
	}
}
