package replica_test

import (
	"math"
	"testing"

	"lictor/api"
	"lictor/entry"
	"lictor/replica"
)

// TestSubmit is R1 at all replicas of all clusters: names, timestamps, what comes ahead, and what is sent.
func TestSubmit(t *testing.T) {
	each(func(n, node int) {
		r := newReplica(t, node, n)
		a, b, c := place(16+node, 0), place(32+node, 1), cancel(48+node, 0, 77)
		c.Target = 16 + node
		is(t, do(r, submit(place(0, 0))), a.ID, api.OK, all(n, node, propose(node, 0, 0, a, value(at(1, node))))...)
		is(t, do(r, submit(place(0, 1))), b.ID, api.OK, all(n, node, propose(node, 0, 0, b, value(at(2, node))))...)
		is(t, do(r, submit(cancel(0, 0, a.ID))), c.ID, api.OK, all(n, node, propose(node, 0, 0, c, value(at(3, node), a)))...)
		hasEntry(t, r, entry.Entry{Cmd: c, Low: at(3, node), High: at(3, node), F: value(at(3, node), a)})
		if r.Clock() != 3 || len(r.Entries()) != 3 {
			t.Fatalf("of %d, %d: clock %d, %d entries", n, node, r.Clock(), len(r.Entries()))
		}
	})
}

// TestSubmitsAnyName is that the name that a command is handed in with says nothing.
func TestSubmitsAnyName(t *testing.T) {
	for _, id := range []int{0, 1, 16, 17, 33, -5, 9, lastName, math.MaxInt, math.MinInt} {
		r := newReplica(t, 1, 3)
		is(t, do(r, submit(place(id, 0))), 17, api.OK, all(3, 1, propose(1, 0, 0, place(17, 0), value(at(1, 1))))...)
		if l := r.Entries(); len(l) != 1 || l[0].Cmd != place(17, 0) {
			t.Errorf("%d: %s", id, textOfEntries(l))
		}
	}
}

// TestNextName is which name is next: its number is above those of all that the index has, whosever they are, and however
// it got to know them.
func TestNextName(t *testing.T) {
	for _, x := range []struct {
		knows []int
		want  int
	}{
		{nil, 20},
		{[]int{16}, 36}, {[]int{20}, 36}, {[]int{24}, 36},
		{[]int{20, 36}, 52}, {[]int{36}, 52}, {[]int{20, 16 * 9}, 164}, {[]int{16 * 9, 20}, 164},
		{[]int{20, 16*9 + 8}, 164}, {[]int{16*255 + 8}, lastName + 4}, {[]int{16*255 + 4, 20}, lastName + 4},
	} {
		byMsg, byDisk := newReplica(t, 4, 5), []entry.Entry(nil)
		asked := place(18, 3)
		for _, id := range x.knows {
			byDisk = append(byDisk, entry.Entry{Cmd: place(id, 0)})
		}
		if got := do(on(t, 4, 5, keeping(t, 0, byDisk...)), submit(place(0, 0))); got.name != x.want || got.err != api.OK {
			t.Errorf("knows %v: %s", x.knows, textOfSaid(got))
		}
		if len(x.knows) == 0 {
			continue
		}
		for _, id := range x.knows {
			byMsg.Receive(propose(2, 4, 0, place(id, 0), value(at(1, 2))))
		}
		if got := do(byMsg, submit(place(0, 0))); got.name != x.want || got.err != api.OK {
			t.Errorf("was told %v: %s", x.knows, textOfSaid(got))
		}
		// It has a command's entry also where that came as one that comes ahead of another one.
		byMsg = newReplica(t, 4, 5)
		for _, id := range x.knows {
			byMsg.Receive(propose(2, 4, 0, asked, value(at(1, 2), place(id, 3))))
		}
		if got := do(byMsg, submit(place(0, 0))); got.name != x.want || got.err != api.OK {
			t.Errorf("was told %v as what comes ahead: %s", x.knows, textOfSaid(got))
		}
	}
}

// TestNoName is where there is none left: ErrOver, ahead of ErrArg, and nothing is changed.
func TestNoName(t *testing.T) {
	for _, id := range []int{lastName, lastName + 1, lastName + 8} {
		p := newPair(t, 1, 3)
		p.do(t, receive(propose(0, 1, 0, place(id, 0), value(at(5, 0)))))
		p.do(t, receive(propose(0, 1, 0, place(16, 0), value(at(6, 0)))))
		is(t, p.do(t, submit(place(0, 0))), 0, api.ErrOver)
		is(t, p.do(t, submit(api.Cmd{Symbol: -1})), 0, api.ErrOver)
		if p.r.Clock() != 6 || p.r.Halted() || len(p.r.Entries()) != 2 {
			t.Errorf("%d: clock %d, %s", id, p.r.Clock(), textOfEntries(p.r.Entries()))
		}
		// Also with a clock that is full: nothing is ticked.
		p.do(t, receive(stable(2, 1, place(18, 1), value(at(lastClock, 2)))))
		is(t, p.do(t, submit(place(0, 0))), 0, api.ErrOver)
	}
	// All 256 of one's own.
	r := newReplica(t, 1, 3)
	for i := range api.MaxSeq {
		if got := do(r, submit(place(0, i%4))); got.name != 16*(i+1)+1 || got.err != api.OK || len(got.sent) != 2 {
			t.Fatalf("%d: %s", i, textOfSaid(got))
		}
	}
	is(t, do(r, submit(place(0, 0))), 0, api.ErrOver)
}

// wrongCmds are commands that may not be, whatever their name.
func wrongCmds() []api.Cmd {
	var l []api.Cmd
	for _, c := range []api.Cmd{place(0, 0), cancel(0, 0, 17), {Kind: api.Amend, Target: 17, Qty: 3}} {
		for _, wrong := range []int{-1, math.MinInt, api.MaxQty + 1, math.MaxInt} {
			a, b, d, e, f, g := c, c, c, c, c, c
			a.Kind, b.Symbol, d.Target, e.Side, f.Price, g.Qty = api.Kind(wrong), wrong, wrong, api.Side(wrong), wrong, wrong
			l = append(l, a, b, d, e, f, g)
		}
	}
	return append(l, api.Cmd{Kind: 3}, api.Cmd{Symbol: 4}, api.Cmd{Side: 2}, api.Cmd{Kind: api.Cancel}, api.Cmd{Kind: api.Cancel, Target: 9},
		api.Cmd{Target: 17}, api.Cmd{Kind: api.Cancel, Target: 17, Qty: 1}, api.Cmd{Kind: api.Amend, Target: 17, Price: 1})
}

// TestSubmitWrong is ErrArg of a command that may not be, behind which all is as ahead.
func TestSubmitWrong(t *testing.T) {
	p := newPair(t, 1, 3)
	for i, c := range wrongCmds() {
		is(t, p.do(t, submit(c)), 0, api.ErrArg)
		c.ID = 17
		is(t, p.do(t, submit(c)), 0, api.ErrArg)
		if p.r.Clock() != 0 || len(p.r.Entries()) > 0 || len(p.d.Bytes()) > 0 || p.r.Halted() {
			t.Fatalf("%d, %+v", i, c)
		}
	}
	is(t, p.do(t, submit(place(0, 0))), 17, api.OK, all(3, 1, propose(1, 0, 0, place(17, 0), value(at(1, 1))))...)
	for _, c := range wrongCmds() {
		is(t, p.do(t, submit(c)), 0, api.ErrArg)
	}
	is(t, p.do(t, submit(place(0, 1))), 33, api.OK, all(3, 1, propose(1, 0, 0, place(33, 1), value(at(2, 1))))...)
	// A full clock is looked at behind that.
	p.do(t, receive(stable(2, 1, place(18, 1), value(at(lastClock, 2)))))
	is(t, p.do(t, submit(wrongCmds()[0])), 0, api.ErrArg)
	if p.r.Halted() {
		t.Error("halted")
	}
}

// TestNoTick is a timestamp that can't be ticked: it halts, and has what it had.
func TestNoTick(t *testing.T) {
	p := newPair(t, 1, 3)
	p.do(t, receive(stable(2, 1, place(18, 1), value(at(lastClock-1, 2)))))
	is(t, p.do(t, submit(place(0, 0))), 33, api.OK, all(3, 1, propose(1, 0, 0, place(33, 0), value(at(lastClock, 1))))...)
	was, synced := p.d.Bytes(), p.d.Synced()
	is(t, p.do(t, submit(place(0, 0))), 0, api.ErrHalt)
	if !p.r.Halted() || len(p.r.Entries()) != 2 || p.r.Clock() != lastClock || !isAs(p.d, was, synced) {
		t.Errorf("clock %d, %s", p.r.Clock(), textOfEntries(p.r.Entries()))
	}
	isHalted(t, p.r)
}

// isHalted asks all that one that halted is told: ErrHalt ahead of all other errors.
func isHalted(t *testing.T, r *replica.Replica) {
	t.Helper()
	if !r.Halted() {
		t.Fatal("not halted")
	}
	l := []act{submit(place(0, 0)), submit(api.Cmd{Symbol: -1}), receive(api.Msg{From: -1}), receive(prepare(0, 8, 2, place(16, 0))),
		receive(prepare(0, r.Node(), 2, place(16, 0))), timer(0), timer(16), hurry(0), hurry(16)}
	for _, e := range r.Entries() {
		l = append(l, timer(e.Cmd.ID), hurry(e.Cmd.ID))
	}
	was, clock := textOfEntries(r.Entries()), r.Clock()
	for _, x := range l {
		is(t, do(r, x), 0, api.ErrHalt)
		r.Break()
	}
	if textOfEntries(r.Entries()) != was || r.Clock() != clock || !r.Halted() {
		t.Fatal("it goes on")
	}
}

// many are entries of as many commands of symbol 0, done one behind the other.
func many(n int) []entry.Entry {
	var l []entry.Entry
	for i := range n {
		l = append(l, done(place(16*(1+i/9)+i%9, 0), at(i+1, i%9)))
	}
	return l
}

// TestManyAhead is what is told where more commands come ahead than a set has room for: those messages may not be, so none
// is dealt with.
func TestManyAhead(t *testing.T) {
	l := many(api.MaxPreds + 1)
	r := on(t, 0, 3, keeping(t, 2000, l[:api.MaxPreds]...))
	got := do(r, submit(place(0, 0)))
	if got.err != api.OK || len(got.sent) != 2 || len(got.sent[1].V.P) != api.MaxPreds {
		t.Fatalf("%d: %d sent", got.err, len(got.sent))
	}
	d := keeping(t, 2000, l...)
	was := d.Bytes()
	r = on(t, 0, 3, d)
	name := 16 * (2 + api.MaxPreds/9)
	is(t, do(r, submit(place(0, 0))), name, api.OK)
	if len(r.Entries()) != api.MaxPreds+1 || r.Clock() != 2001 || r.Halted() || !isAs(d, was, len(was)) {
		t.Errorf("%d entries, clock %d", len(r.Entries()), r.Clock())
	}
	// The name goes to the next one, of a symbol of which there are fewer.
	is(t, do(r, submit(place(0, 1))), name, api.OK, all(3, 0, propose(0, 0, 0, place(name, 1), value(at(2002, 0))))...)
}
