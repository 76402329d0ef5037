package index_test

import (
	"math"
	"slices"
	"testing"

	"lictor/api"
	"lictor/entry"
	"lictor/index"
)

// asks tells whether an index tells just that of a command and a timestamp: what comes ahead, and the names of what holds
// up, and of what rules out.
func asks(t *testing.T, x *index.Index, c api.Cmd, s int, pred []api.Cmd, holders, killers []int) {
	t.Helper()
	if got := x.Pred(c, s); !slices.Equal(got, pred) {
		t.Errorf("Pred(%v, %d): %v, not %v", c, s, got, pred)
	}
	if got := x.Holders(c, s); !slices.Equal(got, holders) {
		t.Errorf("Holders(%v, %d): %v, not %v", c, s, got, holders)
	}
	if got := x.Killers(c, s); !slices.Equal(got, killers) {
		t.Errorf("Killers(%v, %d): %v, not %v", c, s, got, killers)
	}
}

// absent tells whether just these are absent, of those that are done, and of the others.
func absent(t *testing.T, x *index.Index, c api.Cmd, s int, p []api.Cmd, isDone, isNot []int) {
	t.Helper()
	if got := x.Absent(c, s, p, true); !slices.Equal(got, isDone) {
		t.Errorf("Absent(%v, %d, %v), done: %v, not %v", c, s, p, got, isDone)
	}
	if got := x.Absent(c, s, p, false); !slices.Equal(got, isNot) {
		t.Errorf("Absent(%v, %d, %v), not done: %v, not %v", c, s, p, got, isNot)
	}
}

// times are numbers just below, at, and just above some, and the least and the greatest of all.
func times(l ...int) []int {
	all := []int{math.MinInt, -1, 0, 1, 15, 16, 17, lastStamp, lastStamp + 1, math.MaxInt}
	for _, s := range l {
		all = append(all, s-1, s, s+1)
	}
	return all
}

// TestTouch is P13.1 (X2): entries of another symbol, and the command's own, don't touch it; all others of its symbol do,
// whatever kind they are, whether it is one that the index has, or not.
func TestTouch(t *testing.T) {
	own, other := place(17, 2), place(33, 2)
	x := made(t, 0, 0, reserved(bare(own), at(3, 0), at(5, 0)), done(bare(other), value(at(6, 0))), reserved(bare(cancel(34, 2, 17)), at(3, 1), at(7, 0)))
	for s := range 4 {
		if s != 2 {
			put(t, x, api.OK, reserved(bare(amend(48+s, s, 17, 2)), at(3, s), at(9, 0)))
			put(t, x, api.OK, done(bare(place(64+s, s)), value(at(8, s))))
		}
	}
	late := at(90, 0)
	asks(t, x, own, late, cmds(other, cancel(34, 2, 17)), nil, nil)
	asks(t, x, own, at(4, 0), cmds(cancel(34, 2, 17)), names(34), names(33))
	asks(t, x, other, at(4, 0), cmds(own, cancel(34, 2, 17)), names(17, 34), nil)
	asks(t, x, place(16, 2), at(4, 0), cmds(own, cancel(34, 2, 17)), names(17, 34), names(33))
	asks(t, x, cancel(16, 2, 33), late, cmds(own, other, cancel(34, 2, 17)), nil, nil)
	asks(t, x, amend(256, 2, 33, 1), 0, nil, names(17, 34), names(33))
	asks(t, x, place(48, 0), at(4, 0), nil, nil, names(64))
	asks(t, x, place(48, 1), late, cmds(amend(49, 1, 17, 2), place(65, 1)), nil, nil)
	asks(t, x, place(64, 3), at(4, 0), cmds(amend(51, 3, 17, 2)), names(51), names(67))
	absent(t, x, own, late, nil, names(33), names(34))
	absent(t, x, place(16, 2), late, nil, names(33), names(17, 34))
	absent(t, x, place(16, 0), late, nil, names(64), names(48))
	absent(t, x, place(64, 0), late, nil, nil, names(48))
	// Its name is its own, also where that stands with another symbol; a command that may not be has one all the same.
	asks(t, x, place(17, 3), at(4, 0), cmds(amend(51, 3, 17, 2)), names(51), names(67))
	asks(t, x, place(51, 2), at(4, 0), cmds(own, cancel(34, 2, 17)), names(17, 34), names(33))
	asks(t, x, api.Cmd{ID: -5, Kind: 9, Symbol: 2}, late, cmds(own, other, cancel(34, 2, 17)), nil, nil)
	for _, symbol := range []int{math.MinInt, -2, -1, 4, 5, 1<<32 + 2, math.MaxInt} {
		for _, s := range times(late) {
			asks(t, x, place(16, symbol), s, nil, nil, nil)
			absent(t, x, place(16, symbol), s, nil, nil, nil)
		}
	}
	asks(t, made(t, 0, 0), own, late, nil, nil, nil)
	absent(t, made(t, 0, 0), own, late, cmds(own), nil, nil)
}

// TestAhead is P13.1 (X2): just below, at, and just above an entry's LOW, HIGH, and its value's T, of entries with nothing
// reserved, reserved, freed, and done.
func TestAhead(t *testing.T) {
	c, own := place(33, 0), place(17, 0)
	low, high, v := at(40, 2), at(60, 3), at(50, 1)
	r := reserved(bare(c), low, high)
	rich := accepted(voted(r, value(at(45, 0))), 4, value(at(55, 0)))
	lone := accepted(voted(bare(c), value(at(45, 0))), 4, value(at(55, 0)))
	never, none := math.MaxInt, math.MinInt
	for _, k := range []struct {
		e                    entry.Entry
		ahead, holds, killed int // it comes ahead of what is above the first; it holds up, and rules out, what is below the others
	}{
		{bare(c), never, 0, none},
		{freed(bare(c)), never, 0, none},
		{lone, never, 0, none},
		{r, low, high, none},
		{reserved(bare(c), low, low), low, low, none},
		{reserved(bare(c), leastStamp, lastStamp), leastStamp, lastStamp, none},
		{freed(r), low, high, none},
		{rich, low, high, none},
		{freed(rich), low, high, none},
		{done(bare(c), value(v)), v, none, v},
		{done(r, value(v)), v, none, v},
		{done(r, value(at(30, 0))), at(30, 0), none, at(30, 0)},
		{done(r, value(at(70, 0))), at(70, 0), none, at(70, 0)},
		{freed(done(rich, value(v, place(16, 0)))), v, none, v},
		{done(r, value(lastStamp)), lastStamp, none, lastStamp},
		{done(r, value(leastStamp)), leastStamp, none, leastStamp},
		{done(r, value(v, own)), v, none, none},
	} {
		x := made(t, 0, 0, k.e)
		for _, s := range times(low, high, v, at(30, 0), at(70, 0), at(45, 0), at(55, 0)) {
			pred, holders, killers, isDone, isNot := cmds(), names(), names(), names(), names()
			if s > k.ahead {
				pred = cmds(c)
				isDone, isNot = names(33), nil
				if !k.e.Done {
					isDone, isNot = nil, names(33)
				}
			}
			if s < k.holds {
				holders = names(33)
			}
			if s < k.killed {
				killers = names(33)
			}
			asks(t, x, own, s, pred, holders, killers)
			absent(t, x, own, s, nil, isDone, isNot)
			asks(t, x, c, s, nil, nil, nil)
			absent(t, x, c, s, nil, nil, nil)
		}
	}
}

// TestKillers is P13.1 (X2): with the command's name in the value's P, at each place, and without; a name that stands
// there alone counts, and neither what is fast, nor what was accepted.
func TestKillers(t *testing.T) {
	own := place(49, 1)
	p := cmds(place(16, 1), place(33, 1), own, place(64, 1), place(16*mostSeq, 1))
	e := bare(place(18, 1))
	kills := func(want bool, e entry.Entry) {
		t.Helper()
		var l []int
		if want {
			l = names(18)
		}
		x := made(t, 0, 0, e, bare(own))
		if got := x.Killers(own, at(4, 0)); !slices.Equal(got, l) {
			t.Errorf("%s: %v, not %v", short(e), got, l)
		}
	}
	kills(true, done(e, value(at(5, 0))))
	kills(false, done(e, value(at(4, 0))))
	kills(false, done(e, value(at(3, 0))))
	for i := range p {
		for j := i + 1; j <= len(p); j++ {
			kills(i > 2 || j <= 2, done(e, value(at(5, 0), p[i:j]...)))
		}
	}
	kills(false, done(e, value(at(5, 0), place(49, 0))))
	kills(false, done(e, value(at(5, 0), cancel(49, 3, 16))))
	kills(true, done(e, value(at(5, 0), place(16, 1), cancel(50, 1, 49))))
	kills(true, done(accepted(voted(e, value(at(5, 0), own)), 2, value(at(5, 0), own)), value(at(5, 0))))
	kills(false, done(accepted(voted(e, value(at(5, 0))), 2, value(at(5, 0))), value(at(5, 0), own)))
	kills(false, accepted(voted(reserved(e, at(5, 0), at(6, 0)), value(at(5, 0))), 2, value(at(5, 0))))
	many := made(t, 0, 0)
	for n := 30; n > 0; n-- {
		v := value(at(n, 0))
		if n%3 == 0 {
			v.P = p
		}
		put(t, many, api.OK, done(bare(place(16*n+2, n%2)), v))
	}
	if got := many.Killers(own, at(20, 0)); !slices.Equal(got, names(16*23+2, 16*25+2, 16*29+2)) {
		t.Errorf("%v", got)
	}
}

// TestAbsent is P13.1 (X2): of those that are done, and of those that are not, with p empty, with some of them, with all,
// with others, with what is no set, and with another command of a name.
func TestAbsent(t *testing.T) {
	own := place(19, 0)
	var l []entry.Entry
	for n := 1; n <= 8; n++ {
		e := reserved(bare(place(16*n, 0)), at(n, 0), at(n+20, 0))
		if n%2 == 0 {
			e = done(e, value(at(n, 4)))
		}
		l = append(l, e)
	}
	x := made(t, 0, 0, l...)
	put(t, x, api.OK, done(bare(place(17, 1)), value(at(1, 0))))
	put(t, x, api.OK, reserved(bare(place(33, 1)), at(1, 0), at(1, 0)))
	s := at(7, 0)
	all := cmds(place(16, 0), place(32, 0), place(48, 0), place(64, 0), place(80, 0), place(96, 0))
	others := cmds(place(17, 1), place(33, 1), place(112, 0), place(128, 0), place(257, 0))
	absent(t, x, own, s, nil, names(32, 64, 96), names(16, 48, 80))
	absent(t, x, own, s, cmds(), names(32, 64, 96), names(16, 48, 80))
	absent(t, x, own, s, others, names(32, 64, 96), names(16, 48, 80))
	absent(t, x, own, s, all, nil, nil)
	absent(t, x, own, s, append(slices.Clone(others), all...), nil, nil)
	absent(t, x, own, s, append(slices.Clone(all), others...), nil, nil)
	for i := range all {
		for j := i; j <= len(all); j++ {
			var isDone, isNot []int
			for k, c := range all {
				if in := i <= k && k < j; !in && k%2 == 1 {
					isDone = append(isDone, c.ID)
				} else if !in {
					isNot = append(isNot, c.ID)
				}
			}
			p := slices.Clone(all[i:j])
			absent(t, x, own, s, p, isDone, isNot)
			slices.Reverse(p)
			absent(t, x, own, s, append(p, p...), isDone, isNot)
		}
	}
	absent(t, x, own, s, cmds(place(32, 3), cancel(48, 0, 16), api.Cmd{ID: 80}), names(64, 96), names(16))
	absent(t, x, own, s, cmds(api.Cmd{}, api.Cmd{ID: -16}, own), names(32, 64, 96), names(16, 48, 80))
	absent(t, x, place(16, 0), s, cmds(place(96, 0)), names(32, 64), names(48, 80))
	absent(t, x, place(32, 0), s, nil, names(64, 96), names(16, 48, 80))
	for n := range 10 {
		for k, at := range []int{at(n, 0), at(n, 4), at(n, 5)} {
			var isDone, isNot []int
			for m := 1; m <= 8; m++ {
				if even := m%2 == 0; even && (m < n || m == n && k == 2) {
					isDone = append(isDone, 16*m)
				} else if !even && (m < n || m == n && k > 0) {
					isNot = append(isNot, 16*m)
				}
			}
			absent(t, x, own, at, others[:2], isDone, isNot)
		}
	}
}

// TestAsksOfSeveral is P13.1 (X2): of several that came in any order, just those that come ahead, hold up, or rule out,
// rising.
func TestAsksOfSeveral(t *testing.T) {
	own := place(17, 3)
	a := reserved(bare(place(32, 3)), at(2, 0), at(9, 0))
	b := done(bare(cancel(40, 3, 32)), value(at(6, 0), own))
	c := done(reserved(bare(place(48, 3)), at(1, 0), at(99, 0)), value(at(4, 0)))
	d := freed(reserved(bare(amend(16, 3, 32, 1)), at(5, 0), at(5, 0)))
	for _, l := range permuted(list(a, b, c, d, full(own))) {
		x := made(t, 0, 0, l...)
		asks(t, x, own, at(1, 0), nil, names(16, 32), names(48))
		asks(t, x, own, at(3, 0), cmds(a.Cmd), names(16, 32), names(48))
		asks(t, x, own, at(5, 0), cmds(a.Cmd, c.Cmd), names(32), nil)
		asks(t, x, own, at(7, 0), cmds(d.Cmd, a.Cmd, b.Cmd, c.Cmd), names(32), nil)
		asks(t, x, own, at(9, 0), cmds(d.Cmd, a.Cmd, b.Cmd, c.Cmd), nil, nil)
		asks(t, x, place(18, 3), at(3, 0), cmds(a.Cmd), names(16, 32), names(17, 40, 48))
		changed(t, x)
		put(t, x, api.OK, done(a, value(at(8, 0))))
		asks(t, x, own, at(7, 0), cmds(d.Cmd, b.Cmd, c.Cmd), nil, names(32))
		has(t, x, 99, d, full(own), done(a, value(at(8, 0))), b, c)
		changed(t, x, 32)
	}
}

// TestChanged is P13.1 (X2): behind New, behind Learn of some that it had, behind Put of one twice, asked twice in a row,
// rising; what is asked for else, seen, ticked, or refused, is none.
func TestChanged(t *testing.T) {
	l := list(bare(place(17, 0)), full(place(33, 1)))
	x := made(t, 0, 0, l...)
	changed(t, x)
	learn(t, x, api.OK, place(65, 0), place(17, 0), place(49, 2), place(33, 1))
	changed(t, x, 49, 65)
	learn(t, x, api.OK, place(17, 0), place(49, 2))
	changed(t, x)
	put(t, x, api.OK, full(place(49, 2)))
	put(t, x, api.OK, l[0])
	put(t, x, api.OK, full(place(49, 2)))
	put(t, x, api.OK, bare(place(16, 2)))
	changed(t, x, 16, 17, 49)
	learn(t, x, api.OK, place(24, 0))
	put(t, x, api.OK, full(place(24, 0)))
	changed(t, x, 24)
	put(t, x, api.OK, full(place(32, 0)))
	x.See(at(500, 0))
	ticks(t, x, 501)
	x.Get(17)
	x.All()
	x.Pred(place(17, 0), at(9, 0))
	x.Holders(place(17, 0), at(9, 0))
	x.Killers(place(17, 0), at(9, 0))
	x.Absent(place(17, 0), at(9, 0), nil, true)
	learn(t, x, api.ErrTwice, place(18, 0), place(17, 1))
	learn(t, x, api.ErrArg, place(18, 0), place(17, 5))
	put(t, x, api.ErrTwice, bare(place(17, 1)))
	put(t, x, api.ErrArg, bare(place(18, 7)))
	changed(t, x, 32)
	learn(t, x, api.OK)
	changed(t, x)
}
