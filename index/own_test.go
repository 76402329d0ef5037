package index_test

import (
	"math"
	"slices"
	"testing"

	"lictor/api"
	"lictor/entry"
	"lictor/index"
)

// TestHandedIn is rule 4: what is handed in is neither written into nor kept: who handed it in may write into it.
func TestHandedIn(t *testing.T) {
	a, b := full(place(33, 0)), reserved(bare(place(17, 0)), at(1, 0), at(2, 0))
	l := list(a, b)
	x := made(t, 0, 0, l...)
	if !entry.Same(l[0], a) || !entry.Same(l[1], b) {
		t.Errorf("New wrote %s", short(l))
	}
	l[0], l[1] = entry.Entry{}, full(place(48, 2))
	has(t, x, 9, b, a)
	c := cmds(place(50, 1), place(33, 0), place(34, 1), place(50, 1))
	learn(t, x, api.OK, c...)
	if !slices.Equal(c, cmds(place(50, 1), place(33, 0), place(34, 1), place(50, 1))) {
		t.Errorf("Learn wrote %v", c)
	}
	c[0], c[2] = place(64, 3), api.Cmd{}
	has(t, x, 9, b, a, bare(place(34, 1)), bare(place(50, 1)))
	p := cmds(place(48, 0), place(17, 0), place(33, 0), place(16, 0))
	if got := x.Absent(place(16, 0), at(90, 0), p, true); len(got) != 0 {
		t.Errorf("Absent: %v", got)
	}
	if !slices.Equal(p, cmds(place(48, 0), place(17, 0), place(33, 0), place(16, 0))) {
		t.Errorf("Absent wrote %v", p)
	}
	p[2] = place(32, 0)
	absent(t, x, place(16, 0), at(90, 0), p, names(33), nil)
}

// TestBehindTheLength is rule 4: what lies behind a list's length is neither read nor written.
func TestBehindTheLength(t *testing.T) {
	a, b := full(place(33, 0)), bare(place(17, 0))
	for _, behind := range list(a, entry.Entry{}, reserved(bare(place(18, 0)), 16, lastStamp)) {
		l := list(a, b, behind)
		has(t, made(t, 0, 0, l[:2]...), 9, b, a)
		has(t, made(t, 0, 0, l[:0]...), 0)
		if !entry.Same(l[2], behind) {
			t.Errorf("New wrote %s", short(l[2]))
		}
	}
	for _, behind := range cmds(place(33, 3), api.Cmd{}, place(50, 1), place(34, 2)) {
		x := made(t, 0, 0, a)
		l := cmds(place(34, 1), place(33, 0), behind, behind)
		learn(t, x, api.OK, l[:2]...)
		has(t, x, 9, a, bare(place(34, 1)))
		changed(t, x, 34)
		learn(t, x, api.OK, l[:0]...)
		changed(t, x)
		absent(t, x, place(16, 0), at(90, 0), l[:1], names(33), nil)
		absent(t, x, place(16, 0), at(90, 0), l[:0], names(33), nil)
		if !slices.Equal(l, cmds(place(34, 1), place(33, 0), behind, behind)) {
			t.Errorf("wrote %v", l)
		}
	}
}

// spoil writes into all of a list, and behind it.
func spoil[E any](l []E) {
	clear(l[:cap(l)])
	_ = append(l, *new(E))
}

// TestTold is rule 4: what is told is one's own: who is told may write into it, and no later call, and no other answer,
// tells that.
func TestTold(t *testing.T) {
	var l []entry.Entry
	for n := 1; n <= 9; n++ {
		e := reserved(bare(place(16*n, 1)), at(n, 0), at(n+5, 0))
		if n%2 == 0 {
			e = done(e, value(at(n, 3)))
		}
		l = append(l, e)
	}
	x := made(t, 0, 0, l...)
	own, s := place(17, 1), at(5, 0)
	want := asked(x, own, s, nil)
	for range 3 {
		all, pred, holders, killers := x.All(), x.Pred(own, s), x.Holders(own, s), x.Killers(own, s)
		isDone, isNot := x.Absent(own, s, nil, true), x.Absent(own, s, pred[:1], false)
		if len(all) != 9 || len(pred) != 4 || len(holders) != 5 || len(killers) != 2 || len(isDone) != 2 || len(isNot) != 1 {
			t.Fatal(all, pred, holders, killers, isDone, isNot)
		}
		again := x.Pred(own, s)
		spoil(pred)
		if len(again) != 4 || again[0].ID != 16 {
			t.Errorf("Pred: %v", again)
		}
		spoil(all)
		spoil(holders)
		spoil(killers)
		spoil(isDone)
		spoil(isNot)
		has(t, x, 14, l...)
		if got := asked(x, own, s, nil); got != want {
			t.Errorf("%s, not %s", got, want)
		}
	}
	learn(t, x, api.OK, place(17, 1), place(33, 1), place(16, 1))
	first := x.Changed()
	learn(t, x, api.OK, place(49, 1), place(65, 1))
	second := x.Changed()
	if !slices.Equal(first, names(17, 33)) || !slices.Equal(second, names(49, 65)) {
		t.Errorf("changed %v, %v", first, second)
	}
	spoil(first)
	if !slices.Equal(second, names(49, 65)) {
		t.Errorf("changed %v", second)
	}
	learn(t, x, api.OK, place(81, 1))
	spoil(second)
	changed(t, x, 81)
}

// TestSets is rule 4: the sets of an entry's values are handed on as they are, and nobody writes into one.
func TestSets(t *testing.T) {
	p := cmds(place(16, 0), place(17, 0), place(33, 0), place(64, 0))
	want := slices.Clone(p)
	e := done(accepted(voted(bare(place(33, 0)), value(at(2, 0), p[:3]...)), 1, value(at(3, 0), p[:2]...)), value(at(4, 0), p[:1]...))
	x := made(t, 0, 0, e)
	put(t, x, api.OK, e)
	learn(t, x, api.OK, p...)
	asks(t, x, place(17, 0), at(3, 0), nil, nil, names(33))
	absent(t, x, place(17, 0), at(5, 0), p[:2], names(33), nil)
	put(t, x, api.OK, freed(e))
	has(t, x, 4, bare(p[0]), bare(p[1]), freed(e), bare(p[3]))
	if !slices.Equal(p, want) {
		t.Errorf("wrote %v", p)
	}
}

// nothing tells whether each call tells what one on a nil index is to.
func nothing(t *testing.T, x *index.Index) {
	t.Helper()
	if x.Node() != -1 || x.Clock() != 0 {
		t.Errorf("%d %d", x.Node(), x.Clock())
	}
	for _, s := range append(noStamps(), 16, at(300, 5), lastStamp) {
		x.See(s)
		if got, err := x.Tick(); got != 0 || err != api.ErrArg {
			t.Errorf("Tick: %d %d", got, err)
		}
		for _, c := range append(wrongCmds(), place(17, 0), cancel(33, 3, 17)) {
			asks(t, x, c, s, nil, nil, nil)
			absent(t, x, c, s, nil, nil, nil)
			absent(t, x, c, s, cmds(c, c), nil, nil)
		}
		if e, ok := x.Get(s); ok || !entry.Same(e, entry.Entry{}) {
			t.Errorf("Get(%d): %s %t", s, short(e), ok)
		}
	}
	learn(t, x, api.ErrArg)
	learn(t, x, api.ErrArg, place(17, 0))
	learn(t, x, api.ErrArg, place(17, 0), place(17, 1))
	learn(t, x, api.ErrArg, wrongCmds()...)
	for _, e := range append(wrong(), full(place(17, 0)), bare(place(33, 0))) {
		put(t, x, api.ErrArg, e)
	}
	if got := x.All(); len(got) != 0 {
		t.Errorf("All: %v", got)
	}
	changed(t, x)
	if x.Node() != -1 || x.Clock() != 0 {
		t.Errorf("%d %d", x.Node(), x.Clock())
	}
}

// TestNil is rule 8, and P1: on a nil index ErrArg, -1, 0, false, nothing, also on one that New told beside an error; on
// one that New did not make the same.
func TestNil(t *testing.T) {
	var none *index.Index
	nothing(t, none)
	x, _ := index.New(9, 0)
	nothing(t, x)
	nothing(t, &index.Index{})
}

// TestAnyNumbers is P1: each call ends, at the numbers at which the machine's own end.
func TestAnyNumbers(t *testing.T) {
	e := full(place(17, 0))
	x := made(t, 8, 9, e)
	ends := []int{math.MinInt, math.MinInt + 1, math.MinInt32, -1, 0, 1, math.MaxInt32, math.MaxInt - 1, math.MaxInt}
	for _, a := range ends {
		for _, b := range ends {
			c := api.Cmd{ID: a, Kind: api.Kind(b), Symbol: b, Target: a, Side: api.Side(b), Price: a, Qty: b}
			refused(t, api.ErrArg, a, b, bare(c))
			learn(t, x, api.ErrArg, c)
			put(t, x, api.ErrArg, entry.Entry{Cmd: place(17, 0), Promised: a, Low: b, High: a, AB: b, F: value(a), Done: true, V: value(b)})
			x.See(a)
			// The entry is of the symbol 0, and done with at(6, 6), without the command among its P.
			var touching []int
			if b == 0 {
				touching = names(17)
			}
			asks(t, x, c, at(6, 6)-1, nil, nil, touching)
			absent(t, x, c, math.MaxInt, nil, touching, nil)
			absent(t, x, c, math.MaxInt, cmds(c, c), touching, nil)
			absent(t, x, c, math.MaxInt, cmds(c, place(17, 0)), nil, nil)
		}
	}
	has(t, x, 9, e)
	changed(t, x)
}
