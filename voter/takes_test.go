package voter_test

import (
	"slices"
	"testing"

	"lictor/api"
	"lictor/entry"
)

// rich is an entry with something of all that one that isn't done can have.
func rich(c api.Cmd) entry.Entry {
	e := reserved(bare(c), at(2, 1), at(9, 3))
	return freed(promised(accepted(voted(e, value(at(4, 0), place(16, 0))), 7, value(at(5, 2), place(18, 0))), 8))
}

// TestStable is P14.1 (1): of what is not done, of what is done with the same value, and with another one.
func TestStable(t *testing.T) {
	c, p, q := place(48, 0), place(16, 0), place(18, 0)
	for _, e := range list(bare(c), promised(bare(c), mostBallot), reserved(bare(c), at(1, 0), at(90, 0)), rich(c), freed(voted(bare(c), value(at(3, 0))))) {
		for _, bal := range []int{0, 1, 5, mostBallot} {
			v := made(t, 0, e, bare(p))
			m := stable(1, c, value(at(30, 0), p))
			m.Bal = bal
			v.Changed()
			tells(t, v, m)
			has(t, v, max(30, e.High/16), names(48), bare(p), done(e, value(at(30, 0), p)))
			tells(t, v, m)
			has(t, v, max(30, e.High/16), names(48), bare(p), done(e, value(at(30, 0), p)))
			// Of another one nothing, but that what it brought is learned, and seen.
			for _, other := range []api.Value{value(at(30, 1), p), value(at(30, 0)), value(at(30, 0), q), value(at(30, 0), p, q), value(leastStamp, p)} {
				tells(t, v, stable(1, c, other))
			}
			has(t, v, max(30, e.High/16), names(18), bare(p), bare(q), done(e, value(at(30, 0), p)))
			tells(t, v, stable(1, c, value(at(95, 0), p)))
			has(t, v, 95, nil, bare(p), bare(q), done(e, value(at(30, 0), p)))
		}
	}
	v := made(t, 0)
	tells(t, v, stable(8, c, value(lastStamp)))
	tells(t, v, stable(8, p, value(leastStamp, c)))
	has(t, v, lastClock, names(16, 48), done(bare(p), value(leastStamp, c)), done(bare(c), value(lastStamp)))
	waits(t, v)
}

// TestDone is P14.1 (2): of one that is done, whichever of the three comes, at whatever ballot, its value is told, at Bal
// 0, and nothing is put.
func TestDone(t *testing.T) {
	c, p := place(48, 0), place(16, 0)
	for _, v := range []api.Value{value(at(3, 2), p), value(at(3, 2)), value(lastStamp, p, c)} {
		for _, e := range list(done(bare(c), v), done(rich(c), v), done(promised(bare(c), mostBallot), v)) {
			for _, bal := range []int{0, 1, 7, 8, 9, mostBallot} {
				for _, w := range []api.Value{v, value(at(3, 2)), value(at(70, 0), p), e.F} {
					if w.T == 0 {
						continue
					}
					for _, m := range msgs(propose(2, bal, c, w), exact(propose(7, bal, c, w)), accept(8, bal, c, w), prepare(me, bal, c)) {
						x := made(t, 0, e, bare(p), bare(place(18, 0)))
						x.See(lastStamp)
						tells(t, x, m, settled(m, v))
						has(t, x, lastClock, nil, bare(p), bare(place(18, 0)), e)
						waits(t, x)
					}
				}
			}
		}
	}
}

// TestBelow is P14.1 (3): a ballot below what was promised is rejected, and nothing is put; one at it, or above it, is not.
func TestBelow(t *testing.T) {
	c := place(48, 0)
	for _, b := range []int{1, 2, 8, mostBallot} {
		e := promised(reserved(bare(c), at(2, 0), at(9, 0)), b)
		for _, bal := range []int{0, b - 1, b, b + 1, mostBallot} {
			w := value(at(12, 1))
			if bal > mostBallot {
				continue
			}
			for _, m := range msgs(propose(2, bal, c, w), exact(propose(2, bal, c, w)), accept(3, bal, c, w), prepare(0, bal, c)) {
				v := made(t, 20, e)
				if bal < b {
					tells(t, v, m, reject(m, b))
					has(t, v, 20, nil, e)
					waits(t, v)
					continue
				}
				got := v.Handle(m)
				if len(got) != 1 || got[0].Sort == api.Reject || got[0].Bal != bal || got[0].To != m.From {
					t.Errorf("%s: told %s", short(m), short(got))
				}
				if l := v.All(); l[0].Promised != bal || !slices.Equal(v.Changed(), names(48)) {
					t.Errorf("%s: has %s", short(m), short(l))
				}
			}
		}
	}
	// Without anything promised no ballot is below.
	for _, m := range msgs(propose(2, 0, c, value(at(3, 0))), prepare(2, 0, c)) {
		v := made(t, 0)
		if got := v.Handle(m); len(got) != 1 || got[0].Sort == api.Reject {
			t.Errorf("%s: told %s", short(m), short(got))
		}
	}
}

// TestPrepare is P14.1 (4): the ballot is promised, and put; F, AB, A and Flag are the entry's, S is fresh, and P is what
// comes ahead of that.
func TestPrepare(t *testing.T) {
	c := place(48, 0)
	f, a := value(at(4, 0), place(16, 0)), value(at(5, 2), place(18, 0), place(33, 0))
	for mask := range 16 {
		e := reserved(bare(c), at(2, 1), at(9, 3))
		if mask&1 != 0 {
			e = voted(e, f)
		}
		if mask&2 != 0 {
			e = promised(accepted(e, 3, a), 3)
		}
		if mask&4 != 0 {
			e = freed(e)
		}
		if mask&8 != 0 {
			e = promised(e, 6)
		}
		for _, bal := range []int{e.Promised, e.Promised + 1, mostBallot} {
			v := made(t, 20, e)
			m := prepare(5, bal, c)
			tells(t, v, m, promise(m, e, at(21, me)))
			has(t, v, 21, names(48), promised(e, bal))
			tells(t, v, m, promise(m, e, at(22, me)))
			has(t, v, 22, names(48), promised(e, bal))
			waits(t, v)
		}
	}
	// Of those of its symbol all that were reserved, and all that are done, as S is above all that was seen.
	low, high := reserved(bare(place(17, 0)), leastStamp, leastStamp), reserved(bare(place(33, 0)), at(2, 0), at(50, 8))
	is, far := done(bare(place(64, 0)), value(at(50, 2))), done(rich(place(80, 0)), value(at(3, 2), c))
	v := made(t, 0, low, high, bare(place(49, 0)), rich(c), is, far, reserved(bare(place(18, 1)), leastStamp, leastStamp), freed(bare(place(65, 0))))
	m := prepare(2, 9, c)
	tells(t, v, m, promise(m, rich(c), at(51, me), low.Cmd, high.Cmd, is.Cmd, far.Cmd))
	m = prepare(2, 0, place(19, 1))
	tells(t, v, m, promise(m, bare(m.Cmd), at(52, me), place(18, 1)))
	m = prepare(3, 2, place(20, 2))
	tells(t, v, m, promise(m, bare(m.Cmd), at(53, me)))
}

// TestAccept is P14.1 (5): the value is accepted with the ballot, and put.
func TestAccept(t *testing.T) {
	c, p := place(48, 0), place(16, 0)
	for _, e := range list(bare(c), rich(c), promised(bare(c), 8), reserved(bare(c), at(20, 0), at(60, 0))) {
		for _, bal := range []int{max(1, e.Promised), e.Promised + 1, mostBallot} {
			for _, w := range []api.Value{value(at(40, 0), p), value(at(5, 0)), value(at(80, 8))} {
				// Neither killers, nor holders, stand against what a quorum said okay to.
				v := made(t, 0, e, reserved(done(bare(p), value(at(99, 0))), at(1, 0), at(99, 0)), reserved(bare(place(18, 0)), at(1, 0), at(99, 0)))
				m := accept(6, bal, c, w)
				tells(t, v, m, answer(api.Accepted, m))
				want := promised(accepted(e, bal, w), bal)
				if e.Low == 0 {
					want = reserved(want, w.T, w.T)
				} else {
					want = reserved(want, min(e.Low, w.T), max(e.High, w.T))
				}
				has(t, v, 99, names(48), reserved(done(bare(p), value(at(99, 0))), at(1, 0), at(99, 0)), reserved(bare(place(18, 0)), at(1, 0), at(99, 0)), want)
				waits(t, v)
			}
		}
	}
}

// TestAcceptAtNought is P14.1 (5): at ballot 0 nothing can be accepted, so that nothing is answered, or put.
func TestAcceptAtNought(t *testing.T) {
	c := place(48, 0)
	for _, e := range list(bare(c), freed(voted(reserved(bare(c), at(2, 0), at(3, 0)), value(at(2, 0))))) {
		v := made(t, 3, e)
		tells(t, v, accept(6, 0, c, value(at(9, 0), place(16, 0))))
		has(t, v, 9, names(16), bare(place(16, 0)), e)
	}
	v := made(t, 3, rich(c))
	m := accept(6, 0, c, value(at(9, 0)))
	tells(t, v, m, reject(m, 8))
}

// TestProposed is P14.1 (6): the ballot is promised, and the command freed, if the ballot is above 0, and Flag isn't set;
// that is put, also if the proposal waits, or is refused.
func TestProposed(t *testing.T) {
	c, other := place(48, 0), place(16, 0)
	for _, beside := range list(bare(other), reserved(bare(other), at(70, 0), at(90, 0)), done(bare(other), value(at(90, 0)))) {
		for _, e := range list(bare(c), freed(bare(c)), promised(bare(c), 1), promised(freed(bare(c)), 3), reserved(promised(bare(c), 3), at(4, 0), at(4, 1))) {
			for _, bal := range []int{0, 1, 3, 4, mostBallot} {
				for _, m := range msgs(propose(2, bal, c, value(at(50, 0))), exact(propose(2, bal, c, value(at(50, 0))))) {
					if bal < e.Promised {
						continue
					}
					v := made(t, 0, e, beside)
					got := v.Handle(m)
					want := promised(e, bal)
					want.Freed = e.Freed || bal > 0 && !m.Flag
					switch {
					case beside.High > 0:
						waits(t, v, m)
					case beside.Done:
						waits(t, v)
						if !same(got, msgs(refuse(m, at(91, me), other))) {
							t.Errorf("%s: told %s", short(m), short(got))
						}
					case e.Low > 0:
						want = reserved(want, at(4, 0), at(50, 0))
					default:
						want = reserved(want, at(50, 0), at(50, 0))
					}
					if beside.High == 0 && !beside.Done && bal == 0 {
						want = voted(want, m.V)
					}
					if l := v.All(); !entry.Same(l[1], want) || !entry.Same(l[0], beside) || !slices.Equal(v.Changed(), names(48)) {
						t.Errorf("%s: has %s, not %s", short(m), short(l), short(want))
					}
				}
			}
		}
	}
}

// TestVotedAlready is P14.1 (6a): okay with Flag, and without commands, if the fast value is V, and either Bal is 0, or
// Flag is set; nothing stands against that, and no more is put.
func TestVotedAlready(t *testing.T) {
	c, p, q := place(48, 0), place(16, 0), place(18, 0)
	w := value(at(50, 0), p)
	besides := [][]entry.Entry{
		{bare(p)},
		{reserved(bare(p), at(60, 0), at(90, 0))},
		{reserved(bare(p), at(3, 0), at(3, 0)), reserved(bare(q), at(2, 0), at(3, 0))},
		{done(bare(p), value(at(90, 0)))},
		{done(bare(p), value(at(20, 0))), done(bare(q), value(at(30, 0)))},
	}
	for _, beside := range besides {
		for _, e := range list(voted(reserved(bare(c), at(50, 0), at(50, 0)), w), voted(reserved(bare(c), at(4, 0), at(95, 0)), w), voted(bare(c), w), freed(voted(bare(c), w)), promised(accepted(voted(bare(c), w), 2, value(at(50, 0))), 2)) {
			for _, bal := range []int{e.Promised, max(1, e.Promised), 5, mostBallot} {
				for _, m := range msgs(propose(3, bal, c, w), exact(propose(3, bal, c, w))) {
					v := made(t, 50, append(list(e), beside...)...)
					if bal > 0 && !m.Flag {
						got := v.Handle(m)
						if len(got) == 1 && got[0].Flag {
							t.Errorf("%s beside %s: told %s", short(m), short(beside), short(got))
						}
						continue
					}
					clock := v.Clock()
					tells(t, v, m, quick(m))
					has(t, v, clock, names(48), append(slices.Clone(beside), promised(e, bal))...)
					waits(t, v)
				}
			}
		}
	}
}

// TestAnotherValue is P14.1 (6a, 6d): a fast value that is another one, by T, or by P, is not V; then it is decided on as
// any other proposal, and the vote stays as it is.
func TestAnotherValue(t *testing.T) {
	c, p, q := place(48, 0), place(16, 0), place(18, 0)
	for _, f := range []api.Value{value(at(50, 0)), value(at(50, 1), p), value(at(50, 0), q), value(at(50, 0), p, q), value(leastStamp, p)} {
		e := voted(reserved(bare(c), at(30, 0), at(60, 0)), f)
		for _, bal := range []int{0, 2} {
			m := propose(3, bal, c, value(at(50, 0), p))
			for _, m := range msgs(m, exact(m)) {
				want := promised(e, bal)
				want.Freed = bal > 0 && !m.Flag
				v := made(t, 0, e, bare(p), bare(q))
				tells(t, v, m, okay(m))
				has(t, v, 60, names(48), bare(p), bare(q), want)
				v = made(t, 0, e, bare(p), done(bare(q), value(at(70, 0))))
				tells(t, v, m, refuse(m, at(71, me), q))
				v = made(t, 0, e, bare(p), reserved(bare(q), at(70, 0), at(70, 0)))
				tells(t, v, m)
				waits(t, v, m)
			}
		}
	}
	// What was accepted is no vote.
	v := made(t, 0, promised(accepted(bare(c), 2, value(at(50, 0))), 2))
	m := exact(propose(3, 2, c, value(at(50, 0))))
	tells(t, v, m, okay(m))
}
