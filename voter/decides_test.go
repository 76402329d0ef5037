package voter_test

import (
	"slices"
	"testing"

	"lictor/api"
	"lictor/entry"
)

// verdict is what becomes of a proposal that came to one that has some entries.
type verdict int

const (
	votes verdict = iota
	reserves
	refuses
	holds
)

// decides has one with such entries take a proposal of a command that it has nothing of, and tells whether that becomes of
// it, with these commands among what is told.
func decides(t *testing.T, l []entry.Entry, m api.Msg, want verdict, p ...api.Cmd) {
	t.Helper()
	v := made(t, 0, l...)
	v.Learn(m.V.P...)
	v.Changed()
	v.See(m.V.T)
	clock := v.Clock()
	e := promised(bare(m.Cmd), m.Bal)
	e.Freed = m.Bal > 0 && !m.Flag
	switch want {
	case votes:
		e = voted(reserved(e, m.V.T, m.V.T), m.V)
		tells(t, v, m, quick(m))
	case reserves:
		e = reserved(e, m.V.T, m.V.T)
		tells(t, v, m, okay(m, p...))
	case refuses:
		clock++
		tells(t, v, m, refuse(m, at(clock, me), p...))
	case holds:
		tells(t, v, m)
	}
	if want == holds {
		waits(t, v, m)
	} else {
		waits(t, v)
	}
	if got, _ := v.Get(m.Cmd.ID); !entry.Same(got, e) {
		t.Errorf("%s: has %s, not %s", short(m), short(got), short(e))
	}
	if v.Clock() != clock || !slices.Equal(v.Changed(), names(m.Cmd.ID)) {
		t.Errorf("%s: clock %d, not %d", short(m), v.Clock(), clock)
	}
}

// TestKillers is P14.1 (6b): refuse, if one is done with a T above V's T, and a P in which the command doesn't stand: just
// below, at, and just above.
func TestKillers(t *testing.T) {
	c, k := place(48, 0), place(33, 0)
	for _, bal := range []int{0, 1, 5} {
		for _, flag := range []bool{false, true} {
			m := propose(2, bal, c, value(at(50, 3)))
			m.Flag = flag
			free := reserves
			if bal == 0 {
				free = votes
			}
			decides(t, list(done(bare(k), value(at(50, 4)))), m, refuses, k)
			decides(t, list(done(bare(k), value(at(50, 3)))), m, free)
			decides(t, list(done(bare(k), value(at(50, 4), c))), m, free)
			decides(t, list(done(bare(k), value(lastStamp-32))), m, refuses, k)
			decides(t, list(done(bare(k), value(lastStamp-32, place(16, 0), c, place(64, 0)))), m, free)
			decides(t, list(done(bare(k), value(lastStamp-32, place(16, 0), place(64, 0)))), m, refuses, k)
			decides(t, list(done(bare(place(33, 1)), value(at(50, 4)))), m, free)
			// Several: one is enough.
			decides(t, list(done(bare(k), value(at(60, 0), c)), done(bare(place(16, 0)), value(at(55, 0)))), m, refuses, place(16, 0), k)
			// What holds up stands behind what rules out.
			decides(t, list(done(bare(k), value(at(60, 0))), reserved(bare(place(16, 0)), at(58, 0), at(58, 8))), m, refuses, place(16, 0), k)
		}
	}
	// With what was reserved, voted for, or accepted, it would be held up: what it is done with counts alone.
	decides(t, list(done(rich(k), value(at(50, 4)))), propose(2, 0, c, value(at(50, 3))), refuses, k)
	decides(t, list(done(reserved(rich(k), at(1, 0), at(90, 0)), value(at(50, 2)))), propose(2, 0, c, value(at(50, 3), k)), votes)
}

// TestRefuse is P14.1 (6b): S is above all that was seen, and P is what comes ahead of that, not of V's T, with what is in
// V's P.
func TestRefuse(t *testing.T) {
	c, p, q, k := place(48, 0), place(16, 0), place(18, 0), place(33, 0)
	early, late := reserved(bare(p), at(3, 0), at(9, 0)), reserved(bare(q), at(70, 0), at(80, 0))
	killer := done(bare(k), value(at(60, 0)))
	for _, m := range msgs(propose(2, 0, c, value(at(50, 3))), propose(2, 7, c, value(at(50, 3), p)), propose(2, 7, c, value(at(50, 3), p, place(64, 0)))) {
		v := made(t, 0, early, late, killer, reserved(bare(place(17, 2)), at(2, 0), at(2, 0)))
		tells(t, v, m, refuse(m, at(81, me), p, q, k))
		tells(t, v, m, refuse(m, at(82, me), p, q, k))
		if e, _ := v.Get(48); e.Low != 0 || e.F.T != 0 || v.Clock() != 82 {
			t.Errorf("has %s", short(e))
		}
	}
	// Its own reserved timestamps are not among them.
	v := made(t, 0, killer, reserved(bare(c), at(4, 0), at(90, 0)))
	m := propose(2, 0, c, value(at(50, 3)))
	tells(t, v, m, refuse(m, at(91, me), k))
	has(t, v, 91, names(48), killer, reserved(bare(c), at(4, 0), at(90, 0)))
}

// TestHolders is P14.1 (6c): it waits, if one that isn't done has a HIGH above V's T: just below, at, and just above.
func TestHolders(t *testing.T) {
	c, h := place(48, 0), place(33, 0)
	for _, bal := range []int{0, 1, 5} {
		for _, flag := range []bool{false, true} {
			m := propose(2, bal, c, value(at(50, 3)))
			m.Flag = flag
			free := reserves
			if bal == 0 {
				free = votes
			}
			decides(t, list(reserved(bare(h), at(50, 4), at(50, 4))), m, holds)
			decides(t, list(reserved(bare(h), at(50, 3), at(50, 4))), m, holds)
			decides(t, list(reserved(bare(h), at(50, 3), at(50, 3))), m, free)
			decides(t, list(reserved(bare(h), leastStamp, lastStamp)), m, holds)
			decides(t, list(reserved(bare(place(33, 1)), at(60, 0), at(60, 0))), m, free)
			decides(t, list(freed(reserved(bare(h), at(60, 0), at(60, 0)))), m, holds)
			decides(t, list(bare(h)), m, free)
			// A vote, or what was accepted, holds nothing up, where it isn't reserved.
			decides(t, list(voted(accepted(bare(h), 2, value(at(60, 0))), value(at(60, 0)))), m, free)
			// That it has the command among its P helps only once it is done.
			decides(t, list(voted(accepted(reserved(bare(h), at(60, 0), at(60, 0)), 2, value(at(60, 0), c)), value(at(60, 0), c))), m, holds)
			decides(t, list(done(reserved(bare(h), at(60, 0), at(60, 0)), value(at(60, 0), c))), m, free)
			// Several: one is enough.
			decides(t, list(reserved(bare(h), at(50, 3), at(50, 3)), done(bare(place(16, 0)), value(at(60, 0), c)), reserved(bare(place(64, 0)), at(60, 0), at(60, 0))), m, holds)
		}
	}
	// With V's P it is held up, too.
	decides(t, list(reserved(bare(h), at(3, 0), at(60, 0))), propose(2, 0, c, value(at(50, 3), h)), holds)
}

// TestAbsent is P14.1 (6b, 6c): if Flag is set, what comes ahead of V's T, and is not in V's P, is looked at: with one
// that is done it is refused, with one that isn't it waits; without Flag that is what okay adds.
func TestAbsent(t *testing.T) {
	c, p := place(48, 0), place(33, 0)
	for _, bal := range []int{0, 1, 5} {
		m := propose(2, bal, c, value(at(50, 3)))
		in := propose(2, bal, c, value(at(50, 3), p))
		free := reserves
		if bal == 0 {
			free = votes
		}
		is, isnt := done(bare(p), value(at(50, 2))), reserved(bare(p), at(50, 2), at(50, 3))
		decides(t, list(is), exact(m), refuses, p)
		decides(t, list(isnt), exact(m), holds)
		decides(t, list(is), m, reserves, p)
		decides(t, list(isnt), m, reserves, p)
		for _, e := range list(is, isnt) {
			decides(t, list(e), exact(in), free)
			decides(t, list(e), in, free)
		}
		// At V's T, or above it, nothing is ahead.
		decides(t, list(done(bare(p), value(at(50, 3), c))), exact(m), free)
		decides(t, list(reserved(bare(p), at(50, 3), at(50, 3))), exact(m), free)
		decides(t, list(done(bare(p), value(at(50, 4), c))), exact(m), free)
		decides(t, list(done(bare(place(33, 1)), value(at(50, 2))), reserved(bare(place(16, 1)), at(2, 0), at(2, 0))), exact(m), free)
		// One that is done stands ahead of one that isn't, wherever their names stand.
		for _, other := range []int{16, 64} {
			decides(t, list(is, reserved(bare(place(other, 0)), at(2, 0), at(2, 0))), exact(m), refuses, inOrder(p, place(other, 0))...)
			decides(t, list(is, reserved(bare(place(other, 0)), at(2, 0), at(2, 0))), exact(in), holds)
			decides(t, list(isnt, done(bare(place(other, 0)), value(at(2, 0)))), exact(in), refuses, inOrder(p, place(other, 0))...)
			decides(t, list(is, reserved(bare(place(other, 0)), at(2, 0), at(60, 0))), exact(m), refuses, inOrder(p, place(other, 0))...)
			decides(t, list(isnt, done(bare(place(other, 0)), value(at(60, 0)))), exact(in), refuses, inOrder(p, place(other, 0))...)
			decides(t, list(isnt, done(bare(place(other, 0)), value(at(60, 0), c))), exact(m), holds)
			decides(t, list(isnt, done(bare(place(other, 0)), value(at(60, 0), c))), exact(in), free)
		}
	}
}

// inOrder are two commands by their names.
func inOrder(a, b api.Cmd) []api.Cmd {
	if a.ID > b.ID {
		a, b = b, a
	}
	return cmds(a, b)
}

// TestOkay is P14.1 (6d): what comes ahead of V's T, but what is in V's P, is told; it votes, if Bal is 0, that is nothing,
// and there is no fast value; else V's T is reserved.
func TestOkay(t *testing.T) {
	c := place(48, 0)
	a, b, d := reserved(bare(place(16, 0)), at(2, 0), at(9, 0)), done(bare(place(33, 0)), value(at(50, 2))), reserved(bare(cancel(64, 0, 17)), at(50, 2), at(50, 3))
	l := list(a, b, d, bare(place(17, 0)), done(bare(place(18, 0)), value(at(50, 4), c)), reserved(bare(place(80, 0)), at(50, 3), at(50, 3)), done(bare(place(19, 2)), value(at(3, 0))))
	all := cmds(a.Cmd, b.Cmd, d.Cmd)
	for mask := range 8 {
		// What is in V's P is in it with what comes ahead of nothing, or isn't known, too.
		p, more := cmds(), cmds()
		for i, c := range all {
			if mask&(1<<i) != 0 {
				p = append(p, c)
			} else {
				more = append(more, c)
			}
		}
		for _, p := range [][]api.Cmd{p, append(slices.Clone(p), place(96, 0), place(97, 3)), append(cmds(), append(p, place(112, 0))...)} {
			for _, bal := range []int{0, 1, mostBallot} {
				m := propose(8, bal, c, value(at(50, 3), p...))
				if bal == 0 && len(more) == 0 {
					decides(t, l, m, votes)
				} else {
					decides(t, l, m, reserves, more...)
				}
			}
		}
	}
	// Nothing ahead at all: the first one of all.
	decides(t, nil, propose(2, 0, c, value(leastStamp)), votes)
	decides(t, nil, propose(2, 0, c, value(lastStamp)), votes)
	decides(t, nil, propose(2, 1, c, value(lastStamp)), reserves)
	decides(t, nil, exact(propose(2, 0, c, value(lastStamp, place(16, 0)))), votes)
	decides(t, nil, exact(propose(2, 1, c, value(lastStamp, place(16, 0)))), reserves)
}

// TestReserves is P14.1 (6d): LOW and HIGH are what they were, and V's T.
func TestReserves(t *testing.T) {
	c := place(48, 0)
	for _, f := range []api.Value{{}, value(at(20, 0)), value(at(30, 0), place(16, 0))} {
		for _, s := range []int{at(10, 0), at(20, 0), at(25, 0), at(30, 0), at(40, 0)} {
			for _, bal := range []int{0, 3} {
				v := made(t, 50, voted(reserved(bare(c), at(20, 0), at(30, 0)), f))
				m := propose(2, bal, c, value(s, place(18, 0)))
				want := voted(reserved(promised(bare(c), bal), min(at(20, 0), s), max(at(30, 0), s)), f)
				want.Freed = bal > 0
				if bal == 0 && f.T == 0 {
					want.F = m.V
					tells(t, v, m, quick(m))
				} else {
					tells(t, v, m, okay(m))
				}
				has(t, v, 50, names(18, 48), bare(place(18, 0)), want)
			}
		}
	}
}

// TestOkayTwice is P14.1 (6a, 6d): the same proposal again is told the same, and another one at ballot 0 is no vote.
func TestOkayTwice(t *testing.T) {
	c, p := place(48, 0), place(16, 0)
	v := made(t, 0)
	m := propose(1, 0, c, value(at(5, 1)))
	other := propose(1, 0, c, value(at(6, 1)))
	tells(t, v, m, quick(m))
	tells(t, v, m, quick(m))
	tells(t, v, other, okay(other))
	tells(t, v, m, quick(m))
	has(t, v, 6, names(48), voted(reserved(bare(c), at(5, 1), at(6, 1)), value(at(5, 1))))
	// One that comes ahead, and came behind it, changes nothing of what was voted for.
	q := propose(3, 0, p, value(at(5, 3)))
	tells(t, v, q)
	waits(t, v, q)
	tells(t, v, m, quick(m))
	// At another ballot, with Flag, it is the vote as well, and without it isn't.
	m.Bal = 1
	tells(t, v, exact(m), quick(m))
	tells(t, v, m, okay(m))
	has(t, v, 6, names(16, 48), bare(p), freed(promised(voted(reserved(bare(c), at(5, 1), at(6, 1)), value(at(5, 1))), 1)))
}

// many are commands of the first n names from that of a replica's first on, of one symbol.
func many(n int) []api.Cmd {
	var l []api.Cmd
	for id := 16; len(l) < n; id++ {
		if id%16 < replicas {
			l = append(l, place(id, 0))
		}
	}
	return l
}

// TestGreatSets is P14.1: with as many commands as a set can have, ahead, and in V's P.
func TestGreatSets(t *testing.T) {
	all := many(mostPreds)
	c := place(16*mostSeq+8, 0)
	var l []entry.Entry
	for i, p := range all {
		l = append(l, reserved(bare(p), at(i+1, 0), at(i+1, 0)))
	}
	last := value(at(mostPreds+1, 1))
	m := propose(1, 0, c, last)
	tells(t, made(t, 0, l...), m, okay(m, all...))
	n := prepare(1, 2, c)
	tells(t, made(t, 0, l...), n, promise(n, bare(c), at(mostPreds+1, me), all...))
	k := propose(1, 0, c, value(at(1, 3), all...))
	v := made(t, 0, append(slices.Clone(l[:mostPreds-1]), done(l[mostPreds-1], value(at(mostPreds, 0))))...)
	tells(t, v, k, refuse(k, at(mostPreds+1, me), all...))
	for _, flag := range []bool{false, true} {
		m := propose(1, 0, c, api.Value{T: last.T, P: all})
		m.Flag = flag
		tells(t, made(t, 0, l...), m, quick(m))
		m.V.P = all[:mostPreds-1]
		if flag {
			v := made(t, 0, l...)
			tells(t, v, m)
			waits(t, v, m)
		} else {
			tells(t, made(t, 0, l...), m, okay(m, all[mostPreds-1]))
		}
	}
}
