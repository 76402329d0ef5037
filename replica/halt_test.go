package replica_test

import (
	"slices"
	"testing"

	"lictor/api"
	"lictor/entry"
	"lictor/replica"
)

// TestFull is a disk that gets full in the midst: with room to the last byte it goes on, with a byte less it halts, tells
// nothing, and keeps what it has taken by then, and its disk what that had.
func TestFull(t *testing.T) {
	mine, his := place(17, 0), place(16, 0)
	steps := []act{submit(place(0, 0)), receive(propose(0, 1, 0, his, value(at(4, 0), mine))), receive(okay(0, 1, mine, at(1, 1))),
		receive(propose(2, 1, 4, place(34, 0), value(at(8, 2), place(18, 0), place(33, 0)))),
		receive(okay(2, 1, mine, at(1, 1))), timer(16), receive(stable(0, 1, his, value(at(4, 0), mine))), timer(17), submit(place(0, 1))}
	whole := newPair(t, 1, 3)
	for i, x := range steps {
		before := len(whole.d.Bytes())
		want := whole.do(t, x)
		after := len(whole.d.Bytes())
		for room := before; room <= after; room++ {
			p := onDisk(t, 1, 3, newDisk(t, room))
			for _, y := range steps[:i] {
				p.do(t, y)
			}
			was, delivered := p.d.Bytes(), p.r.Delivered()
			got := p.do(t, x)
			if room == after {
				if !sameSaid(got, want) || p.r.Halted() {
					t.Fatalf("%s: %s", textOf(x), textOfSaid(got))
				}
				continue
			}
			is(t, got, 0, api.ErrHalt)
			if !isAs(p.d, was, len(was)) || textOfEntries(p.r.Entries()) != textOfEntries(whole.r.Entries()) ||
				p.r.Clock() != whole.r.Clock() || !slices.Equal(p.r.Delivered(), delivered) {
				t.Fatalf("%s: room %d: %s", textOf(x), room, textOfEntries(p.r.Entries()))
			}
			isHalted(t, p.r)
			// A new one on that disk has what it had ahead of that step.
			if other := on(t, 1, 3, p.d); !slices.Equal(other.Delivered(), delivered) || other.Halted() {
				t.Fatalf("%s: room %d: delivered %v", textOf(x), room, other.Delivered())
			}
		}
	}
	if len(whole.r.Delivered()) != 2 {
		t.Errorf("%v", whole.r.Delivered())
	}
}

// TestNoRoom is a disk without room: it goes on as long as nothing changes.
func TestNoRoom(t *testing.T) {
	p := onDisk(t, 1, 3, newDisk(t, 0))
	is(t, p.do(t, receive(okay(0, 1, place(17, 0), at(1, 1)))), 0, api.OK)
	is(t, p.do(t, receive(reject(0, 1, 3, place(17, 0), 4))), 0, api.OK)
	is(t, p.do(t, submit(place(0, 0))), 0, api.ErrHalt)
	if l := p.r.Entries(); len(l) != 1 || l[0].Cmd.ID != 17 || p.r.Clock() != 1 {
		t.Errorf("%s", textOfEntries(l))
	}
	isHalted(t, p.r)
}

// breakable are acts of replica 1 of three, behind some others, each of which is a step, and whether that changes anything.
func breakable() []struct {
	ahead   []act
	x       act
	changes bool
} {
	mine := place(17, 0)
	voted := []act{submit(place(0, 0)), receive(okay(0, 1, mine, at(1, 1)))}
	settled := append(slices.Clone(voted), receive(okay(2, 1, mine, at(1, 1))))
	return []struct {
		ahead   []act
		x       act
		changes bool
	}{
		{nil, submit(place(0, 0)), true},
		{voted, submit(place(0, 0)), true},
		{nil, receive(propose(0, 1, 0, place(16, 0), value(at(3, 0)))), true},
		{voted, receive(prepare(0, 1, 8, mine)), true},
		{voted, receive(okay(2, 1, mine, at(1, 1))), true},
		{voted, receive(stable(2, 1, mine, value(at(1, 1)))), true},
		{voted, receive(okay(0, 1, mine, at(1, 1))), false},
		{voted, receive(reject(0, 1, 0, mine, 9)), false},
		{voted, timer(17), true},
		{settled, timer(17), false},
		{voted, hurry(17), true},
		{voted[:1], hurry(17), false},
		{settled, hurry(17), false},
	}
}

// TestBreak is the step behind a Break: it deals with messages, and puts what changed, and then it halts. What it put isn't
// synced, so that a crash keeps as much of it as it will, and a new one has that.
func TestBreak(t *testing.T) {
	for _, x := range breakable() {
		whole, p := newPair(t, 1, 3), newPair(t, 1, 3)
		for _, y := range x.ahead {
			whole.do(t, y)
			p.do(t, y)
		}
		was, before, delivered := p.d.Bytes(), textOfEntries(p.r.Entries()), p.r.Delivered()
		whole.do(t, x.x)
		p.do(t, breaks())
		is(t, p.do(t, x.x), 0, api.ErrHalt)
		if !isAs(p.d, whole.d.Bytes(), len(was)) || (len(p.d.Bytes()) > len(was)) != x.changes {
			t.Fatalf("%s: %d bytes, %d synced", textOf(x.x), len(p.d.Bytes()), p.d.Synced())
		}
		if textOfEntries(p.r.Entries()) != textOfEntries(whole.r.Entries()) || p.r.Clock() != whole.r.Clock() ||
			!slices.Equal(p.r.Delivered(), delivered) {
			t.Fatalf("%s: %s", textOf(x.x), textOfEntries(p.r.Entries()))
		}
		isHalted(t, p.r)
		for keep := range len(p.d.Bytes()) - len(was) + 1 {
			d := p.d.Clone()
			d.Crash(keep)
			l := textOfEntries(on(t, 1, 3, d).Entries())
			if keep == 0 && l != before || keep == len(p.d.Bytes())-len(was) && l != textOfEntries(whole.r.Entries()) {
				t.Fatalf("%s: of a crash that keeps %d: %s", textOf(x.x), keep, l)
			}
		}
	}
}

// TestBreakWaits is that what has an error is no step: it doesn't break, and the next one does.
func TestBreakWaits(t *testing.T) {
	for _, x := range breakable() {
		p := newPair(t, 1, 3)
		for _, y := range x.ahead {
			p.do(t, y)
		}
		p.do(t, breaks())
		for range 2 {
			is(t, p.do(t, submit(api.Cmd{Symbol: 4})), 0, api.ErrArg)
			is(t, p.do(t, receive(prepare(0, 2, 2, place(16, 0)))), 0, api.ErrArg)
			is(t, p.do(t, timer(18)), 0, api.ErrNone)
			is(t, p.do(t, hurry(18)), 0, api.ErrNone)
		}
		p.do(t, breaks())
		if p.r.Halted() {
			t.Fatal("halted ahead of a step")
		}
		is(t, p.do(t, x.x), 0, api.ErrHalt)
		isHalted(t, p.r)
	}
	// No name, and then a step.
	p := newPair(t, 1, 3)
	p.do(t, receive(prepare(0, 1, 2, place(lastName, 0))))
	p.do(t, breaks())
	is(t, p.do(t, submit(place(0, 0))), 0, api.ErrOver)
	is(t, p.do(t, timer(lastName)), 0, api.ErrHalt)
}

// TestBreakOnce is that a new one on the same disk doesn't break.
func TestBreakOnce(t *testing.T) {
	p := newPair(t, 1, 3)
	p.do(t, breaks())
	p = onDisk(t, 1, 3, p.d)
	is(t, p.do(t, submit(place(0, 0))), 17, api.OK, all(3, 1, propose(1, 0, 0, place(17, 0), value(at(1, 1))))...)
}

// fullClock is a pair of replica 1, of three, whose clock has so many ticks left, and that has an entry of 17, and two
// proposals that wait for that.
func fullClock(t *testing.T, left int) *pair {
	t.Helper()
	p := newPair(t, 1, 3)
	p.do(t, submit(place(0, 0)))
	p.do(t, receive(propose(0, 1, 0, place(16, 0), value(at(1, 0)))))
	p.do(t, receive(propose(2, 1, 0, place(16, 0), value(at(1, 0)))))
	p.do(t, receive(stable(2, 1, place(18, 1), value(at(lastClock-left, 2)))))
	if len(p.r.Waiting()) != 2 || p.r.Clock() != lastClock-left {
		t.Fatal("not as it should begin")
	}
	return p
}

// TestOver is a voter that becomes over in the midst of a step: it halts, whatever else there was, tells nothing, and puts
// nothing; its entries are what it has taken by then.
func TestOver(t *testing.T) {
	mine := place(17, 0)
	for _, x := range []struct {
		x    act
		need int // so many ticks it asks for
		want entry.Entry
	}{
		{receive(prepare(0, 1, 2, mine)), 1, entry.Entry{Cmd: mine, Promised: 2, Low: at(1, 1), High: at(1, 1), F: value(at(1, 1))}},
		{timer(17), 1, entry.Entry{Cmd: mine, Promised: 3, Low: at(1, 1), High: at(1, 1), F: value(at(1, 1))}},
		{receive(stable(0, 1, mine, value(at(1, 1)))), 2, entry.Entry{Cmd: mine, Low: at(1, 1), High: at(1, 1), F: value(at(1, 1)),
			Done: true, V: value(at(1, 1))}},
	} {
		for left := range 4 {
			p := fullClock(t, left)
			was, delivered := p.d.Bytes(), p.r.Delivered()
			got := p.do(t, x.x)
			hasEntry(t, p.r, x.want)
			if left >= x.need {
				if got.err != api.OK || len(got.sent) == 0 || p.r.Clock() != lastClock-left+x.need {
					t.Fatalf("%s, %d left: %s", textOf(x.x), left, textOfSaid(got))
				}
				continue
			}
			is(t, got, 0, api.ErrHalt)
			if !isAs(p.d, was, len(was)) || !slices.Equal(p.r.Delivered(), delivered) || p.r.Clock() != lastClock {
				t.Fatalf("%s, %d left: clock %d, delivered %v", textOf(x.x), left, p.r.Clock(), p.r.Delivered())
			}
			isHalted(t, p.r)
		}
	}
	// Over, and to break, too: nothing is put.
	p := fullClock(t, 0)
	was := p.d.Bytes()
	p.do(t, breaks())
	is(t, p.do(t, timer(17)), 0, api.ErrHalt)
	if !isAs(p.d, was, len(was)) {
		t.Error("something was put")
	}
}

// TestKeepsWhenHalted is what one that halted still tells: its entries, what it delivered, its answers, its market.
func TestKeepsWhenHalted(t *testing.T) {
	p := newPair(t, 1, 3)
	p.do(t, receive(stable(0, 1, sell(16, 0, 5, 3), value(at(1, 0)))))
	p.do(t, receive(stable(0, 1, place(32, 0), value(at(2, 0), sell(16, 0, 5, 3)))))
	p.do(t, breaks())
	is(t, p.do(t, receive(stable(0, 1, place(48, 1), value(at(3, 0))))), 0, api.ErrHalt)
	for range 2 {
		if l := p.r.Delivered(); !slices.Equal(l, []int{16, 32}) {
			t.Errorf("%v", l)
		}
		if l := p.r.Answers(); len(l) != 2 || len(l[1].Reply.Fills) != 1 {
			t.Errorf("%v", l)
		}
		if l := p.r.Market().Orders(0, api.Sell); len(l) != 1 || l[0].Left != 1 {
			t.Errorf("%v", l)
		}
		if l := p.r.Entries(); len(l) != 3 || !l[2].Done {
			t.Errorf("%s", textOfEntries(l))
		}
		isHalted(t, p.r)
	}
}

// TestNil is a replica that is nil, and one that New did not make.
func TestNil(t *testing.T) {
	for _, r := range []*replica.Replica{nil, {}} {
		for range 2 {
			for _, x := range []act{submit(place(0, 0)), submit(api.Cmd{Symbol: -1}), receive(prepare(0, 0, 2, place(16, 0))),
				receive(api.Msg{Sort: -1}), timer(0), timer(16), hurry(0), hurry(16)} {
				is(t, do(r, x), 0, api.ErrArg)
			}
			if !r.Halted() || len(r.Entries()) > 0 || len(r.Delivered()) > 0 || len(r.Answers()) > 0 || r.Market() != nil {
				t.Error("it tells something")
			}
			r.Break()
		}
	}
}
