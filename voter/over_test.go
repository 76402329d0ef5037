package voter_test

import (
	"slices"
	"testing"

	"lictor/api"
	"lictor/entry"
	"lictor/voter"
)

// isOver tells whether a voter is over, and does nothing any more, whatever comes, and has just these entries.
func isOver(t *testing.T, v *voter.Voter, changed []int, l ...entry.Entry) {
	t.Helper()
	if !v.Over() {
		t.Error("not over")
	}
	has(t, v, lastClock, changed, l...)
	w := value(at(70, 0), place(98, 3))
	for _, c := range cmds(place(17, 0), place(33, 0), place(49, 0), place(256, 0), place(97, 2)) {
		for _, m := range slices.Concat(withP(c, w), others(c, w), msgs(prepare(1, mostBallot, c), stable(1, c, value(at(90, 0))), accept(1, mostBallot, c, w), propose(1, 0, c, value(lastStamp)))) {
			tells(t, v, m)
		}
	}
	for _, m := range wrongMsgs() {
		tells(t, v, m)
	}
	if !v.Over() {
		t.Error("not over any more")
	}
	has(t, v, lastClock, nil, l...)
	v.Waiting()
}

// TestOverAtPrepare is P14.1 (V1): at the greatest count there is no fresh timestamp for a promise; the ballot is promised
// by then.
func TestOverAtPrepare(t *testing.T) {
	c := place(17, 0)
	for _, e := range list(bare(c), rich(c)) {
		v := made(t, lastClock-1, e)
		m := prepare(2, 9, c)
		tells(t, v, m, promise(m, e, at(lastClock, me)))
		waits(t, v)
		tells(t, v, prepare(2, 10, c))
		isOver(t, v, names(17), promised(e, 10))
	}
	// One that needs none is no end.
	e := promised(bare(c), 3)
	v := made(t, lastClock, e)
	tells(t, v, prepare(2, 2, c), reject(prepare(2, 2, c), 3))
	waits(t, v)
	v = made(t, lastClock, done(e, value(at(3, 0))))
	tells(t, v, prepare(2, 9, c), settled(prepare(2, 9, c), value(at(3, 0))))
	waits(t, v)
	// The clock may be full by V's T.
	v = made(t, 0)
	tells(t, v, propose(2, 0, c, value(lastStamp)), quick(propose(2, 0, c, value(lastStamp))))
	waits(t, v)
	tells(t, v, prepare(2, 0, c))
	isOver(t, v, names(17), voted(holder(c, lastStamp), value(lastStamp)))
}

// TestOverAtRefuse is P14.1 (V1): nor is there one for a refusal.
func TestOverAtRefuse(t *testing.T) {
	c, k := place(17, 0), done(bare(place(33, 0)), value(at(90, 0)))
	for _, bal := range []int{0, 2} {
		v := made(t, lastClock-1, k)
		m := propose(2, bal, c, value(at(50, 0)))
		tells(t, v, m, refuse(m, at(lastClock, me), k.Cmd))
		waits(t, v)
		tells(t, v, m)
		e := promised(bare(c), bal)
		e.Freed = bal > 0
		isOver(t, v, names(17), e, k)
		// Of what is absent as well.
		v = made(t, lastClock, k)
		tells(t, v, exact(propose(2, bal, c, value(at(99, 0)))))
		isOver(t, v, names(17), promised(bare(c), bal), k)
	}
	// What V's T itself fills.
	v := made(t, 0, done(bare(place(33, 0)), value(lastStamp)))
	tells(t, v, propose(2, 0, c, value(lastStamp-1)))
	isOver(t, v, names(17), bare(c), done(bare(place(33, 0)), value(lastStamp)))
}

// TestNotOver is P14.1 (V1): at the greatest count all goes on that needs no fresh timestamp, and that the index has none
// for another one doesn't make the voter over.
func TestNotOver(t *testing.T) {
	c, d, h := place(17, 0), place(33, 0), place(256, 0)
	v := made(t, lastClock, holder(h, lastStamp))
	if s, err := v.Tick(); s != 0 || err != api.ErrOver {
		t.Errorf("Tick: %d %d", s, err)
	}
	m, n := propose(2, 0, c, value(at(50, 0))), accept(3, 4, d, value(at(60, 0)))
	tells(t, v, m)
	waits(t, v, m)
	tells(t, v, n, answer(api.Accepted, n))
	tells(t, v, stable(1, d, value(at(60, 0), c)))
	waits(t, v, m)
	tells(t, v, stable(1, h, value(lastStamp, c, d)), quick(m))
	waits(t, v)
	tells(t, v, m, quick(m))
	has(t, v, lastClock, names(17, 33, 256), voted(holder(c, at(50, 0)), m.V),
		done(promised(accepted(holder(d, at(60, 0)), 4, n.V), 4), value(at(60, 0), c)), done(holder(h, lastStamp), value(lastStamp, c, d)))
}

// TestOverInTheMidst is P14.1 (V1): a stable that makes it over in the midst of those that wait is told nothing, not what
// those ahead were to be answered, either; what they put stays, and those behind are not gone through, and stay as they were.
func TestOverInTheMidst(t *testing.T) {
	a, b, c, h := place(17, 0), place(33, 0), place(49, 0), place(256, 0)
	no, nor, yes := propose(1, 0, a, value(at(10, 1))), propose(2, 2, b, value(at(20, 2))), propose(3, 0, c, value(at(30, 3)))
	is := value(at(90, 0), c)
	for _, x := range []struct {
		left int // how many fresh timestamps there are; two are needed
		row  []api.Msg
		told []api.Msg
		okay bool // to the last one
	}{
		{3, msgs(no, yes, nor), msgs(refuse(no, at(lastClock-2, me), h), quick(yes), refuse(nor, at(lastClock-1, me), c, h)), true},
		{2, msgs(no, yes, nor), msgs(refuse(no, at(lastClock-1, me), h), quick(yes), refuse(nor, at(lastClock, me), c, h)), true},
		{2, msgs(no, nor, yes), msgs(refuse(no, at(lastClock-1, me), h), refuse(nor, at(lastClock, me), h), quick(yes)), true},
		{1, msgs(no, nor, yes), nil, false},
		{1, msgs(no, yes, nor), nil, true},
		{1, msgs(yes, no, nor), nil, true},
		{0, msgs(yes, no, nor), nil, true},
		{0, msgs(no, yes, nor), nil, false},
		{0, msgs(nor, no, yes), nil, false},
	} {
		v := made(t, lastClock-x.left, holder(h, at(90, 0)))
		for _, m := range x.row {
			tells(t, v, m)
		}
		waits(t, v, x.row...)
		v.Changed()
		tells(t, v, stable(1, h, is), x.told...)
		last, changed := bare(c), names(256)
		if x.okay {
			last, changed = voted(holder(c, at(30, 3)), yes.V), names(49, 256)
		}
		l := list(bare(a), freed(promised(bare(b), 2)), last, done(holder(h, at(90, 0)), is))
		if x.left >= 2 {
			waits(t, v)
			has(t, v, lastClock-x.left+2, changed, l...)
		} else {
			isOver(t, v, changed, l...)
		}
	}
}

// TestOverBehindEach is P14.1 (V1): whatever those ahead were to be answered, reject, okay and refuse, nothing is told, if
// one behind makes it over; with enough fresh timestamps all are told, in order.
func TestOverBehindEach(t *testing.T) {
	a, b, c, h := place(17, 0), place(33, 0), place(49, 0), place(256, 0)
	_, l := held(t)
	rule := func(i, left int, p ...api.Cmd) api.Msg { return refuse(l[i], at(lastClock-left, me), p...) }
	free, kept, yes := voted(holder(a, at(12, 2)), l[1].V), promised(bare(b), 2), promised(holder(b, at(16, 0)), 2)
	for _, x := range []struct {
		left       int       // how many fresh timestamps there are
		p          []api.Cmd // what h is done with
		told, wait []api.Msg // nothing, both, if it is over
		changed    []int
		a, b       entry.Entry
	}{
		{3, nil, msgs(reject(l[0], 3), rule(1, 2, h), reject(l[2], 3), rule(3, 1, h), rule(4, 0, h)), nil, names(256), bare(a), kept},
		{2, nil, nil, nil, names(256), bare(a), kept},
		{1, nil, nil, nil, names(256), bare(a), kept},
		{0, nil, nil, nil, names(256), bare(a), kept},
		{2, cmds(a), msgs(reject(l[0], 3), quick(l[1]), reject(l[2], 3), rule(3, 1, a, h), rule(4, 0, a, h)), nil, names(17, 256), free, kept},
		{1, cmds(a), nil, nil, names(17, 256), free, kept},
		{0, cmds(a), nil, nil, names(17, 256), free, kept},
		{2, cmds(b), msgs(reject(l[0], 3), rule(1, 1, h), reject(l[2], 3), okay(l[3]), rule(4, 0, b, h)), nil, names(33, 256), bare(a), yes},
		{1, cmds(b), nil, nil, names(33, 256), bare(a), yes},
		{0, cmds(b), nil, nil, names(256), bare(a), kept},
		{1, cmds(a, c), msgs(reject(l[0], 3), quick(l[1]), reject(l[2], 3), rule(3, 0, a, h)), l[4:], names(17, 256), free, kept},
		{0, cmds(a, c), nil, nil, names(17, 256), free, kept},
		{0, cmds(a, b, c), msgs(reject(l[0], 3), quick(l[1]), reject(l[2], 3)), l[3:], names(17, 256), free, kept},
	} {
		v, _ := held(t)
		v.See(at(lastClock-x.left, 0))
		is := value(at(91, 0), x.p...)
		tells(t, v, stable(5, h, is), x.told...)
		all := list(x.a, x.b, freed(promised(bare(c), 3)), done(holder(h, at(90, 0)), is))
		if x.told == nil {
			isOver(t, v, x.changed, all...)
		} else {
			waits(t, v, x.wait...)
			has(t, v, lastClock, x.changed, all...)
		}
	}
}

// TestOverBehindSettled is P14.1 (V1): nor are those told that the stable itself settles.
func TestOverBehindSettled(t *testing.T) {
	c, d, h := place(49, 0), place(33, 0), place(256, 0)
	one, two, beside := propose(0, 0, c, value(at(20, 2))), propose(8, 0, c, value(at(21, 0))), propose(3, 0, d, value(at(20, 3)))
	is := value(at(50, 0), h)
	for left := range 2 {
		for _, row := range [][]api.Msg{{one, two, beside}, {one, beside, two}, {beside, one, two}} {
			v := made(t, lastClock-left, holder(h, at(90, 0)))
			told := make([]api.Msg, 0, len(row))
			for _, m := range row {
				tells(t, v, m)
				if m.Cmd == c {
					told = append(told, settled(m, is))
				} else {
					told = append(told, refuse(m, at(lastClock, me), c, h))
				}
			}
			waits(t, v, row...)
			v.Changed()
			l := list(bare(d), done(bare(c), is), holder(h, at(90, 0)))
			if left > 0 {
				tells(t, v, stable(1, c, is), told...)
				waits(t, v)
				has(t, v, lastClock, names(49), l...)
			} else {
				tells(t, v, stable(1, c, is))
				isOver(t, v, names(49), l...)
			}
		}
	}
}

// TestOverApart is P14.1 (V1): that one voter is over is its own alone.
func TestOverApart(t *testing.T) {
	c := place(17, 0)
	v, w := made(t, lastClock), made(t, lastClock-3)
	tells(t, v, prepare(1, 2, c))
	isOver(t, v, names(17), promised(bare(c), 2))
	for i := range 3 {
		m := prepare(1, i, c)
		tells(t, w, m, promise(m, bare(c), at(lastClock-2+i, me)))
		waits(t, w)
	}
	tells(t, w, prepare(1, 3, c))
	isOver(t, w, names(17), promised(bare(c), 3))
}
