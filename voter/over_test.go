package voter_test

import (
	"slices"
	"testing"

	"lictor/api"
	"lictor/entry"
	"lictor/voter"
)

// isOver tells whether a voter is over, and does nothing any more, whatever comes, and has just these entries.
func isOver(t *testing.T, v *voter.Voter, changed []int, l ...entry.Entry) {
	t.Helper()
	if !v.Over() {
		t.Error("not over")
	}
	has(t, v, lastClock, changed, l...)
	w := value(at(70, 0), place(98, 3))
	for _, c := range cmds(place(17, 0), place(33, 0), place(49, 0), place(256, 0), place(97, 2)) {
		for _, m := range slices.Concat(withP(c, w), others(c, w), msgs(prepare(1, mostBallot, c), stable(1, c, value(at(90, 0))), accept(1, mostBallot, c, w), propose(1, 0, c, value(lastStamp)))) {
			tells(t, v, m)
		}
	}
	for _, m := range wrongMsgs() {
		tells(t, v, m)
	}
	if !v.Over() {
		t.Error("not over any more")
	}
	has(t, v, lastClock, nil, l...)
	v.Waiting()
}

// TestOverAtPrepare is P14.1 (V1): at the greatest count there is no fresh timestamp for a promise; the ballot is promised
// by then.
func TestOverAtPrepare(t *testing.T) {
	c := place(17, 0)
	for _, e := range list(bare(c), rich(c)) {
		v := made(t, lastClock-1, e)
		m := prepare(2, 9, c)
		tells(t, v, m, promise(m, e, at(lastClock, me)))
		waits(t, v)
		tells(t, v, prepare(2, 10, c))
		isOver(t, v, names(17), promised(e, 10))
	}
	// One that needs none is no end.
	e := promised(bare(c), 3)
	v := made(t, lastClock, e)
	tells(t, v, prepare(2, 2, c), reject(prepare(2, 2, c), 3))
	waits(t, v)
	v = made(t, lastClock, done(e, value(at(3, 0))))
	tells(t, v, prepare(2, 9, c), settled(prepare(2, 9, c), value(at(3, 0))))
	waits(t, v)
	// The clock may be full by V's T.
	v = made(t, 0)
	tells(t, v, propose(2, 0, c, value(lastStamp)), quick(propose(2, 0, c, value(lastStamp))))
	waits(t, v)
	tells(t, v, prepare(2, 0, c))
	isOver(t, v, names(17), voted(holder(c, lastStamp), value(lastStamp)))
}

// TestOverAtRefuse is P14.1 (V1): nor is there one for a refusal.
func TestOverAtRefuse(t *testing.T) {
	c, k := place(17, 0), done(bare(place(33, 0)), value(at(90, 0)))
	for _, bal := range []int{0, 2} {
		v := made(t, lastClock-1, k)
		m := propose(2, bal, c, value(at(50, 0)))
		tells(t, v, m, refuse(m, at(lastClock, me), k.Cmd))
		waits(t, v)
		tells(t, v, m)
		e := promised(bare(c), bal)
		e.Freed = bal > 0
		isOver(t, v, names(17), e, k)
		// Of what is absent as well.
		v = made(t, lastClock, k)
		tells(t, v, exact(propose(2, bal, c, value(at(99, 0)))))
		isOver(t, v, names(17), promised(bare(c), bal), k)
	}
	// What V's T itself fills.
	v := made(t, 0, done(bare(place(33, 0)), value(lastStamp)))
	tells(t, v, propose(2, 0, c, value(lastStamp-1)))
	isOver(t, v, names(17), bare(c), done(bare(place(33, 0)), value(lastStamp)))
}

// TestNotOver is P14.1 (V1): at the greatest count all goes on that needs no fresh timestamp, and that the index has none
// for another one doesn't make the voter over.
func TestNotOver(t *testing.T) {
	c, d, h := place(17, 0), place(33, 0), place(256, 0)
	v := made(t, lastClock, holder(h, lastStamp))
	if s, err := v.Tick(); s != 0 || err != api.ErrOver {
		t.Errorf("Tick: %d %d", s, err)
	}
	m, n := propose(2, 0, c, value(at(50, 0))), accept(3, 4, d, value(at(60, 0)))
	tells(t, v, m)
	waits(t, v, m)
	tells(t, v, n, answer(api.Accepted, n))
	tells(t, v, stable(1, d, value(at(60, 0), c)))
	waits(t, v, m)
	tells(t, v, stable(1, h, value(lastStamp, c, d)), quick(m))
	waits(t, v)
	tells(t, v, m, quick(m))
	has(t, v, lastClock, names(17, 33, 256), voted(holder(c, at(50, 0)), m.V),
		done(promised(accepted(holder(d, at(60, 0)), 4, n.V), 4), value(at(60, 0), c)), done(holder(h, lastStamp), value(lastStamp, c, d)))
}

// TestOverInTheMidst is P14.1 (V1): in the midst of those that wait, those ahead are answered, those behind are not gone
// through, and stay as they were.
func TestOverInTheMidst(t *testing.T) {
	a, b, c, h := place(17, 0), place(33, 0), place(49, 0), place(256, 0)
	no, nor, yes := propose(1, 0, a, value(at(10, 1))), propose(2, 2, b, value(at(20, 2))), propose(3, 0, c, value(at(30, 3)))
	is := value(at(90, 0), c)
	for _, x := range []struct {
		left int // how many fresh timestamps there are
		row  []api.Msg
		told []api.Msg
		okay bool // to the last one
	}{
		{2, msgs(no, yes, nor), msgs(refuse(no, at(lastClock-1, me), h), quick(yes), refuse(nor, at(lastClock, me), c, h)), true},
		{1, msgs(no, nor, yes), msgs(refuse(no, at(lastClock, me), h)), false},
		{1, msgs(no, yes, nor), msgs(refuse(no, at(lastClock, me), h), quick(yes)), true},
		{1, msgs(yes, no, nor), msgs(quick(yes), refuse(no, at(lastClock, me), c, h)), true},
		{0, msgs(yes, no, nor), msgs(quick(yes)), true},
		{0, msgs(no, yes, nor), nil, false},
		{0, msgs(nor, no, yes), nil, false},
	} {
		v := made(t, lastClock-x.left, holder(h, at(90, 0)))
		for _, m := range x.row {
			tells(t, v, m)
		}
		waits(t, v, x.row...)
		v.Changed()
		tells(t, v, stable(1, h, is), x.told...)
		last, changed := bare(c), names(256)
		if x.okay {
			last, changed = voted(holder(c, at(30, 3)), yes.V), names(49, 256)
		}
		l := list(bare(a), freed(promised(bare(b), 2)), last, done(holder(h, at(90, 0)), is))
		if x.left == 2 {
			waits(t, v)
			has(t, v, lastClock, changed, l...)
		} else {
			isOver(t, v, changed, l...)
		}
	}
}

// TestOverApart is P14.1 (V1): that one voter is over is its own alone.
func TestOverApart(t *testing.T) {
	c := place(17, 0)
	v, w := made(t, lastClock), made(t, lastClock-3)
	tells(t, v, prepare(1, 2, c))
	isOver(t, v, names(17), promised(bare(c), 2))
	for i := range 3 {
		m := prepare(1, i, c)
		tells(t, w, m, promise(m, bare(c), at(lastClock-2+i, me)))
		waits(t, w)
	}
	tells(t, w, prepare(1, 3, c))
	isOver(t, w, names(17), promised(bare(c), 3))
}
