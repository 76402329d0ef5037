package voter_test

import (
	"slices"
	"testing"

	"lictor/api"
	"lictor/entry"
	"lictor/voter"
)

// holder is an entry that holds up all below a timestamp.
func holder(c api.Cmd, s int) entry.Entry { return reserved(bare(c), s, s) }

// TestExample is example 4 of the whole: one that came with a lesser timestamp waits, till the other one is done, and is
// refused, if that has it not among its P.
func TestExample(t *testing.T) {
	c, d := place(17, 0), place(34, 0)
	first, second := propose(2, 0, d, value(at(9, 2))), propose(1, 0, c, value(at(5, 1)))
	begin := func() *voter.Voter {
		v := made(t, 0)
		tells(t, v, first, quick(first))
		waits(t, v)
		tells(t, v, second)
		waits(t, v, second)
		return v
	}
	v := begin()
	tells(t, v, stable(2, d, value(at(9, 2))), refuse(second, at(10, me), d))
	waits(t, v)
	v = begin()
	tells(t, v, stable(2, d, value(at(9, 2), c)), quick(second))
	waits(t, v)
	has(t, v, 9, names(17, 34), voted(reserved(bare(c), at(5, 1), at(5, 1)), second.V), done(voted(reserved(bare(d), at(9, 2), at(9, 2)), first.V), value(at(9, 2), c)))
}

// held are proposals of some commands, each from several replicas, that wait at one with one of the name 256 that holds them up.
func held(t *testing.T) (*voter.Voter, []api.Msg) {
	t.Helper()
	v := made(t, 0, holder(place(256, 0), at(90, 0)))
	l := msgs(
		propose(1, 0, place(49, 0), value(at(20, 1))),
		propose(2, 0, place(17, 0), value(at(12, 2))),
		propose(3, 1, place(49, 0), value(at(20, 3))),
		exact(propose(1, 2, place(33, 0), value(at(16, 0)))),
		propose(2, 3, place(49, 0), value(at(8, 2), place(17, 0))),
	)
	for i, m := range l {
		tells(t, v, m)
		waits(t, v, l[:i+1]...)
	}
	v.Changed()
	return v, l
}

// TestInstead is P14.1 (6c): one that waits takes the place of one of that command that came from there, and goes behind
// all; those of other commands, or from elsewhere, stay.
func TestInstead(t *testing.T) {
	for i := range 5 {
		v, l := held(t)
		m := l[i]
		again := m
		again.V = value(m.V.T+16, place(112, 0))
		again.Bal += 4
		for _, m := range msgs(m, again, again) {
			if m.Bal < again.Bal && i < 4 && m.Cmd.ID == 49 {
				// More is promised already: it is rejected, and what waits stays.
				tells(t, v, m, reject(m, 3))
				waits(t, v, l...)
				continue
			}
			rest := slices.Concat(l[:i], l[i+1:])
			tells(t, v, m)
			waits(t, v, append(rest, m)...)
			if m.Bal < again.Bal {
				tells(t, v, exact(m))
				waits(t, v, append(rest, exact(m))...)
			}
		}
	}
	v, l := held(t)
	for _, m := range msgs(propose(4, 3, place(49, 0), value(at(20, 1))), propose(2, 2, place(33, 0), value(at(20, 1))), propose(1, 0, place(17, 0), value(at(12, 2)))) {
		l = append(l, m)
		tells(t, v, m)
		waits(t, v, l...)
	}
}

// TestAnsweredMeanwhile is P14.1 (6): a proposal that is answered at once leaves one of its command that waits where it is.
func TestAnsweredMeanwhile(t *testing.T) {
	v, l := held(t)
	for _, m := range msgs(propose(2, 0, place(17, 0), value(at(95, 2))), propose(1, 2, place(33, 0), value(at(99, 1), place(17, 0)))) {
		tells(t, v, m, okay(m, place(256, 0)))
		waits(t, v, l...)
	}
	m := propose(1, 1, place(49, 0), value(at(97, 1)))
	tells(t, v, m, reject(m, 3))
	waits(t, v, l...)
}

// TestGoneThrough is P14.1 (1): behind a stable those that wait are gone through, in order, each once: what is to be
// answered to one is, the others go on waiting, in order.
func TestGoneThrough(t *testing.T) {
	a, b, c, h := place(17, 0), place(33, 0), place(49, 0), place(256, 0)
	// Done with a T above all, and with none of them among its P, it rules all out that aren't rejected.
	v, l := held(t)
	is := value(at(91, 0))
	tells(t, v, stable(5, h, is),
		reject(l[0], 3), refuse(l[1], at(92, me), h), reject(l[2], 3), refuse(l[3], at(93, me), h), refuse(l[4], at(94, me), h))
	waits(t, v)
	has(t, v, 94, names(256), bare(a), promised(bare(b), 2), freed(promised(bare(c), 3)), done(holder(h, at(90, 0)), is))
	// With all of them it lets them go on, but as one is okay, it holds up another one, and is absent of a third.
	v, l = held(t)
	is.P = cmds(a, b, c)
	tells(t, v, stable(5, h, is), reject(l[0], 3), quick(l[1]), reject(l[2], 3))
	waits(t, v, l[3], l[4])
	free := voted(holder(a, at(12, 2)), l[1].V)
	has(t, v, 91, names(17, 256), free, promised(bare(b), 2), freed(promised(bare(c), 3)), done(holder(h, at(90, 0)), is))
	// The same stable again, and one of another symbol, bring none of them further.
	for _, m := range msgs(stable(7, h, is), stable(7, place(64, 2), value(at(3, 0))), stable(7, place(64, 2), value(at(3, 0)))) {
		tells(t, v, m)
		waits(t, v, l[3], l[4])
		v.Changed()
	}
	tells(t, v, stable(2, a, value(at(12, 2), c)), refuse(l[3], at(92, me), a, h), okay(l[4]))
	waits(t, v)
	last := reserved(freed(promised(bare(c), 3)), at(8, 2), at(8, 2))
	has(t, v, 92, names(17, 49), done(free, value(at(12, 2), c)), promised(bare(b), 2), last, done(bare(place(64, 2)), value(at(3, 0))), done(holder(h, at(90, 0)), is))
}

// TestInOrder is P14.1 (1): what one of them reserves holds up those behind it, not those ahead.
func TestInOrder(t *testing.T) {
	a, b, c, h := place(17, 0), place(33, 0), place(49, 0), place(256, 0)
	is := value(at(90, 0), a, b, c)
	low, mid, high := propose(1, 0, a, value(at(10, 1))), propose(2, 0, b, value(at(20, 2))), propose(3, 0, c, value(at(30, 3)))
	for _, x := range []struct{ row, told, wait []api.Msg }{
		{msgs(low, mid, high), msgs(quick(low), okay(mid, a), okay(high, a, b)), nil},
		{msgs(low, high, mid), msgs(quick(low), okay(high, a)), msgs(mid)},
		{msgs(mid, low, high), msgs(quick(mid), okay(high, b)), msgs(low)},
		{msgs(mid, high, low), msgs(quick(mid), okay(high, b)), msgs(low)},
		{msgs(high, low, mid), msgs(quick(high)), msgs(low, mid)},
		{msgs(high, mid, low), msgs(quick(high)), msgs(mid, low)},
		{msgs(high), msgs(quick(high)), nil},
		{nil, nil, nil},
	} {
		v := made(t, 0, holder(h, at(90, 0)))
		for _, m := range x.row {
			tells(t, v, m)
		}
		tells(t, v, stable(1, h, is), x.told...)
		waits(t, v, x.wait...)
		// They go on waiting, also behind a stable of something else.
		tells(t, v, stable(1, place(64, 1), value(at(3, 0))))
		waits(t, v, x.wait...)
	}
	// Of those that go on waiting one may be answered behind the next stable, and the other one behind that.
	v := made(t, 0, holder(h, at(90, 0)))
	for _, m := range msgs(high, mid, low) {
		tells(t, v, m)
	}
	tells(t, v, stable(1, h, is), quick(high))
	waits(t, v, mid, low)
	tells(t, v, stable(1, c, value(at(30, 3), a, b)), quick(mid))
	waits(t, v, low)
	tells(t, v, stable(1, b, value(at(20, 2), a)), quick(low))
	waits(t, v)
}

// waiting has a voter in which a proposal waits, as it is held up.
func waiting(t *testing.T, m api.Msg, l ...entry.Entry) *voter.Voter {
	t.Helper()
	v := made(t, 0, append(l, holder(place(256, 0), at(90, 0)))...)
	tells(t, v, m)
	waits(t, v, m)
	return v
}

// TestEachAnswer is P14.1 (2, 3, 6a to 6d): what one that waits is told: each of the answers that there are.
func TestEachAnswer(t *testing.T) {
	c, p, h := place(49, 0), place(17, 0), place(256, 0)
	lets, kills := stable(1, h, value(at(90, 0), p, c)), stable(1, h, value(at(90, 0)))
	w := value(at(20, 2), p)
	for _, bal := range []int{0, 2} {
		for _, m := range msgs(propose(2, bal, c, w), exact(propose(2, bal, c, w))) {
			// 2, 3.
			v := waiting(t, m)
			v.Handle(stable(3, c, value(at(33, 0), p)))
			waits(t, v)
			v = waiting(t, m)
			if got := v.Handle(stable(3, c, value(at(33, 0), p))); !same(got, msgs(settled(m, value(at(33, 0), p)))) {
				t.Errorf("told %s", short(got))
			}
			for _, raise := range msgs(prepare(3, bal+1, c), accept(3, bal+1, c, value(at(21, 0))), propose(3, bal+1, c, value(at(95, 0)))) {
				v = waiting(t, m)
				v.Handle(raise)
				waits(t, v, m)
				tells(t, v, lets, reject(m, bal+1))
				waits(t, v)
			}
			// A ballot that is the same is none above.
			v = waiting(t, m)
			v.Handle(prepare(3, bal, c))
			waits(t, v, m)
			v.Changed()
			tells(t, v, lets, allowed(m))
			waits(t, v)
			// 6a, as it was voted for meanwhile.
			v = waiting(t, m)
			e, _ := v.Get(49)
			v.Put(voted(e, w))
			if bal == 0 || m.Flag {
				tells(t, v, stable(1, place(64, 1), w), quick(m))
				waits(t, v)
			} else {
				tells(t, v, stable(1, place(64, 1), w))
				waits(t, v, m)
			}
			// 6b.
			v = waiting(t, m)
			tells(t, v, kills, refuse(m, at(91, me), h))
			waits(t, v)
			// 6b, 6c, of what is absent.
			q := place(18, 0)
			v = waiting(t, m, reserved(bare(q), at(3, 0), at(4, 0)))
			if m.Flag {
				tells(t, v, lets)
				waits(t, v, m)
				tells(t, v, stable(1, q, value(at(20, 1))), refuse(m, at(91, me), q, h))
			} else {
				tells(t, v, lets, okay(m, q))
			}
			waits(t, v)
			// 6c, 6d: held up by another one, too, till that is done as well.
			v = waiting(t, m, reserved(bare(q), at(3, 0), at(40, 0)))
			tells(t, v, lets)
			waits(t, v, m)
			tells(t, v, stable(1, q, value(at(40, 0), c)), allowed(m))
			waits(t, v)
		}
	}
}

// allowed is the okay to a proposal, of a command that has nothing else, beside which nothing comes ahead.
func allowed(m api.Msg) api.Msg {
	if m.Bal == 0 {
		return quick(m)
	}
	return okay(m)
}

// TestSeveralOfOne is P14.1 (1, 6a, 6d): of one command several from several replicas.
func TestSeveralOfOne(t *testing.T) {
	c, h := place(49, 0), place(256, 0)
	w, other := value(at(20, 2)), value(at(21, 0), place(17, 0))
	l := msgs(propose(0, 0, c, w), propose(1, 0, c, other), propose(8, 0, c, w), exact(propose(me, 0, c, other)))
	for _, x := range []struct {
		p    []api.Cmd
		told []api.Msg
	}{
		// The first one is voted for, with the third; the others are reserved.
		{cmds(c), msgs(quick(l[0]), okay(l[1]), quick(l[2]), okay(l[3]))},
		{nil, msgs(refuse(l[0], at(91, me), h), refuse(l[1], at(92, me), h), refuse(l[2], at(93, me), h), refuse(l[3], at(94, me), h))},
	} {
		v := made(t, 0, holder(h, at(90, 0)))
		for i, m := range l {
			tells(t, v, m)
			waits(t, v, l[:i+1]...)
		}
		tells(t, v, stable(1, h, value(at(90, 0), x.p...)), x.told...)
		waits(t, v)
	}
	// A stable of what they are proposals of settles them all, whoever is held up.
	v := made(t, 0, holder(h, at(90, 0)))
	for _, m := range l {
		tells(t, v, m)
	}
	beside := propose(3, 0, place(33, 0), w)
	tells(t, v, beside)
	is := value(at(50, 0), place(17, 0), h)
	tells(t, v, stable(1, c, is), settled(l[0], is), settled(l[1], is), settled(l[2], is), settled(l[3], is), refuse(beside, at(91, me), c, h))
	waits(t, v)
}

// TestWaitsOn is P14.1 (1): nothing but a stable that is taken goes through those that wait.
func TestWaitsOn(t *testing.T) {
	c, h := place(49, 0), place(256, 0)
	m := propose(2, 0, c, value(at(20, 2)))
	v := waiting(t, m)
	v.Put(done(bare(h), value(at(90, 0), c)))
	v.Put(done(bare(place(64, 0)), value(at(9, 0))))
	for _, n := range slices.Concat(others(h, value(at(90, 0))), msgs(
		prepare(1, 1, place(33, 0)), accept(1, 1, place(33, 0), value(at(3, 0))), propose(1, 0, place(33, 2), value(at(3, 0))), accept(1, 0, place(33, 0), value(at(3, 0))),
		stable(1, h, value(at(90, 0))), stable(1, h, value(at(91, 0), c)), stable(1, place(64, 1), value(at(3, 0))), stable(1, place(65, 0), value(at(3, 0), place(64, 1))),
		stable(1, place(64, 0), value(at(9, 1))), stable(1, place(64, 0), value(at(9, 0), place(17, 0))),
	)) {
		v.Handle(n)
		waits(t, v, m)
	}
	// One of the same value is taken, and brings it further.
	tells(t, v, stable(1, place(64, 0), value(at(9, 0))), okay(m, place(33, 0), place(64, 0)))
	waits(t, v)
}
