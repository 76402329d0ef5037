package replica_test

import (
	"slices"
	"testing"

	"lictor/api"
	"lictor/entry"
	"lictor/replica"
)

// TestReceiveWrong is ErrArg of what may not be, isn't to the replica, or comes from none of the n; and nothing is changed.
func TestReceiveWrong(t *testing.T) {
	each(func(n, node int) {
		p := newPair(t, node, n)
		c := place(16, 0)
		right := []api.Msg{propose(0, node, 2, c, value(at(1, 0))), okay(0, node, c, at(1, 0)), refuse(0, node, 0, c, at(1, 0), at(2, 0)),
			prepare(0, node, 2, c), promise(0, node, 2, c, at(1, 0)), accept(0, node, 2, c, value(at(1, 0))),
			accepted(0, node, 2, c), stable(0, node, c, value(at(1, 0))), reject(0, node, 2, c, 3)}
		for _, m := range right {
			for _, wrong := range spoilt(n, node, m) {
				is(t, p.do(t, receive(wrong)), 0, api.ErrArg)
			}
		}
		if len(p.r.Entries()) > 0 || p.r.Clock() > 0 || len(p.d.Bytes()) > 0 {
			t.Fatalf("of %d, %d: it took something", n, node)
		}
		// Nothing that was heard was taken, either.
		p.do(t, receive(right[3]))
		is(t, p.do(t, timer(16)), 0, api.OK, all(n, node, prepare(node, 0, least(n, node, 2), c))...)
		// From each of the n, also from itself, it takes them.
		for from := range n {
			for _, m := range right {
				m.From = from
				if got := p.do(t, receive(m)); got.err != api.OK {
					t.Fatalf("%s: %d", textOfMsg(m), got.err)
				}
			}
		}
	})
}

// least is the least ballot of a replica's own above one, by trying all.
func least(n, node, above int) int {
	for b := max(above+1, 2); b <= api.MaxBallot; b++ {
		if (b-2)%n == node {
			return b
		}
	}
	return 0
}

// spoilt are messages like one, each with a part that may not be.
func spoilt(n, node int, m api.Msg) []api.Msg {
	var l []api.Msg
	change := func(f func(*api.Msg)) {
		x := m
		f(&x)
		l = append(l, x)
	}
	for to := -1; to <= mostNodes; to++ {
		if to != node {
			change(func(x *api.Msg) { x.To = to })
		}
	}
	for from := n; from <= mostNodes; from++ {
		change(func(x *api.Msg) { x.From = from })
	}
	change(func(x *api.Msg) { x.From = -1 })
	change(func(x *api.Msg) { x.Sort = -1 })
	change(func(x *api.Msg) { x.Sort = 9 })
	change(func(x *api.Msg) { x.Bal = -1 })
	change(func(x *api.Msg) { x.Bal = api.MaxBallot + 1 })
	change(func(x *api.Msg) { x.Cmd.ID = 15 })
	change(func(x *api.Msg) { x.Cmd.Symbol = 4 })
	change(func(x *api.Msg) { x.V.P = []api.Cmd{place(33, 0), place(32, 0)} })
	change(func(x *api.Msg) { x.V.T = 15 })
	change(func(x *api.Msg) { x.S = 9 })
	change(func(x *api.Msg) { x.AB = -1 })
	change(func(x *api.Msg) { x.A.T = 15 })
	return l
}

// TestVoterSorts is a propose, a prepare and an accept: the voter's answer is sent.
func TestVoterSorts(t *testing.T) {
	r := newReplica(t, 1, 3)
	c, d := place(16, 0), place(18, 0)
	is(t, do(r, receive(propose(0, 1, 0, c, value(at(1, 0))))), 0, api.OK, okay(1, 0, c, at(1, 0)))
	hasEntry(t, r, entry.Entry{Cmd: c, Low: at(1, 0), High: at(1, 0), F: value(at(1, 0))})
	m := promise(1, 2, 4, c, at(2, 1))
	m.F = value(at(1, 0))
	is(t, do(r, receive(prepare(2, 1, 4, c))), 0, api.OK, m)
	is(t, do(r, receive(prepare(0, 1, 2, c))), 0, api.OK, reject(1, 0, 2, c, 4))
	is(t, do(r, receive(accept(2, 1, 4, c, value(at(3, 2), d)))), 0, api.OK, accepted(1, 2, 4, c))
	hasEntry(t, r, entry.Entry{Cmd: c, Promised: 4, Low: at(1, 0), High: at(3, 2), F: value(at(1, 0)), AB: 4, A: value(at(3, 2), d)})
	hasEntry(t, r, entry.Entry{Cmd: d})
	is(t, do(r, receive(stable(2, 1, c, value(at(3, 2))))), 0, api.OK)
	is(t, do(r, receive(propose(0, 1, 0, c, value(at(1, 0))))), 0, api.OK, stable(1, 0, c, value(at(3, 2))))
	if !slices.Equal(r.Delivered(), []int{16}) || r.Clock() != 3 {
		t.Errorf("%v, clock %d", r.Delivered(), r.Clock())
	}
	// Of another command of that name nothing is learned, and nothing is answered.
	is(t, do(r, receive(propose(0, 1, 0, sell(16, 0, 1, 1), value(at(1, 0))))), 0, api.OK)
}

// TestToItself is what a replica tells itself: what it says to itself counts, and nothing of it is sent.
func TestToItself(t *testing.T) {
	r := newReplica(t, 1, 3)
	c := place(16, 0)
	is(t, do(r, receive(propose(1, 1, 0, c, value(at(1, 1))))), 0, api.OK)
	hasEntry(t, r, entry.Entry{Cmd: c, Low: at(1, 1), High: at(1, 1), F: value(at(1, 1))})
	is(t, do(r, receive(prepare(1, 1, 3, c))), 0, api.OK)
	hasEntry(t, r, entry.Entry{Cmd: c, Promised: 3, Low: at(1, 1), High: at(1, 1), F: value(at(1, 1))})
	is(t, do(r, receive(reject(1, 1, 3, c, 100))), 0, api.OK)
	is(t, do(r, timer(16)), 0, api.OK, all(3, 1, prepare(1, 0, 102, c))...)
	// Its own promise, of what it voted for, and one more are a classic quorum: what both leave is proposed.
	m := promise(2, 1, 102, c, at(9, 2))
	m.F = value(at(1, 1))
	is(t, do(r, receive(m)), 0, api.OK, all(3, 1, exact(propose(1, 0, 102, c, value(at(1, 1)))))...)
	m = okay(2, 1, c, at(1, 1))
	m.Bal = 102
	is(t, do(r, receive(m)), 0, api.OK, all(3, 1, accept(1, 0, 102, c, value(at(1, 1))))...)
	is(t, do(r, receive(accepted(2, 1, 102, c))), 0, api.OK, all(3, 1, stable(1, 0, c, value(at(1, 1))))...)
	if !slices.Equal(r.Delivered(), []int{16}) {
		t.Errorf("%v", r.Delivered())
	}
}

// TestLeaderSorts is an okay, a refuse, a promise, an accepted and a reject: its leader takes it.
func TestLeaderSorts(t *testing.T) {
	c := place(17, 0)
	begin := func() *replica.Replica {
		r := newReplica(t, 1, 3)
		do(r, submit(place(0, 0)))
		return r
	}
	// It said okay itself.
	r := begin()
	is(t, do(r, receive(refuse(0, 1, 0, c, at(1, 1), at(4, 0), place(16, 0)))), 0, api.OK,
		all(3, 1, propose(1, 0, 1, c, value(at(4, 0), place(16, 0))))...)
	hasEntry(t, r, entry.Entry{Cmd: c, Promised: 1, Low: at(1, 1), High: at(4, 0), F: value(at(1, 1)), Freed: true})
	hasEntry(t, r, entry.Entry{Cmd: place(16, 0)})
	// That one comes ahead now at one more.
	m := okay(2, 1, c, at(4, 0))
	m.Bal, m.Flag, m.V.P = 1, false, []api.Cmd{place(18, 0)}
	is(t, do(r, receive(m)), 0, api.OK, all(3, 1, accept(1, 0, 1, c, value(at(4, 0), place(16, 0), place(18, 0))))...)
	is(t, do(r, receive(accepted(0, 1, 1, c))), 0, api.OK, all(3, 1, stable(1, 0, c, value(at(4, 0), place(16, 0), place(18, 0))))...)
	if len(r.Delivered()) > 0 {
		t.Errorf("%v is delivered ahead of what comes ahead", r.Delivered())
	}
	// A reject has the attempt be gone.
	r = begin()
	is(t, do(r, receive(reject(0, 1, 0, c, 4))), 0, api.OK)
	is(t, do(r, receive(okay(0, 1, c, at(1, 1)))), 0, api.OK)
	is(t, do(r, receive(okay(2, 1, c, at(1, 1)))), 0, api.OK)
	// Promises.
	r = begin()
	is(t, do(r, timer(17)), 0, api.OK, all(3, 1, prepare(1, 0, 3, c))...)
	x := promise(0, 1, 3, c, at(7, 0))
	x.Flag = true
	is(t, do(r, receive(x)), 0, api.OK, all(3, 1, propose(1, 0, 3, c, value(at(7, 0))))...)
}

// TestBehindAllOthers is the order in which what is told is dealt with: behind all that was told ahead, so that what its voter
// tells those that waited is sent behind what its leader told all.
func TestBehindAllOthers(t *testing.T) {
	r := newReplica(t, 1, 3)
	c, d := place(17, 0), place(16, 0)
	do(r, submit(place(0, 0)))
	is(t, do(r, receive(propose(0, 1, 0, d, value(at(1, 0))))), 0, api.OK)
	do(r, receive(okay(0, 1, c, at(1, 1))))
	want := all(3, 1, stable(1, 0, c, value(at(1, 1))))
	is(t, do(r, receive(okay(2, 1, c, at(1, 1)))), 0, api.OK, append(want, refuse(1, 0, 0, d, at(1, 0), at(2, 1), c))...)
}

// TestStable is dealt with by the voter first: what those that waited are told goes ahead of what its leader tells.
func TestStable(t *testing.T) {
	r := newReplica(t, 1, 5)
	c, d, e := place(17, 0), place(16, 0), place(18, 0)
	do(r, submit(place(0, 0)))
	is(t, do(r, receive(propose(0, 1, 0, d, value(at(1, 0))))), 0, api.OK)
	is(t, do(r, receive(propose(3, 1, 0, d, value(at(1, 0))))), 0, api.OK)
	want := []api.Msg{refuse(1, 0, 0, d, at(1, 0), at(2, 1), c), refuse(1, 3, 0, d, at(1, 0), at(3, 1), c)}
	is(t, do(r, receive(stable(4, 1, c, value(at(1, 1))))), 0, api.OK, append(want, all(5, 1, stable(1, 0, c, value(at(1, 1))))...)...)
	if !slices.Equal(r.Delivered(), []int{17}) {
		t.Errorf("%v", r.Delivered())
	}
	// The attempt is gone: nothing is told of a second one.
	is(t, do(r, receive(stable(3, 1, c, value(at(1, 1))))), 0, api.OK)
	// One of a command that it doesn't lead.
	is(t, do(r, receive(stable(3, 1, e, value(at(5, 3), c)))), 0, api.OK)
	if !slices.Equal(r.Delivered(), []int{17, 18}) {
		t.Errorf("%v", r.Delivered())
	}
}

// TestDelivers is in which order commands are delivered, and what they are answered.
func TestDelivers(t *testing.T) {
	first, second, third := sell(16, 0, 5, 3), place(17, 0), cancel(33, 0, 16)
	other := place(18, 1)
	p := newPair(t, 2, 3)
	p.do(t, receive(stable(1, 2, third, value(at(4, 1), first, second))))
	p.do(t, receive(stable(1, 2, second, value(at(2, 1), first))))
	if l := p.r.Delivered(); len(l) > 0 {
		t.Fatalf("%v", l)
	}
	p.do(t, receive(stable(1, 2, other, value(at(3, 2)))))
	p.do(t, receive(stable(0, 2, first, value(at(1, 0)))))
	if l := p.r.Delivered(); !slices.Equal(l, []int{18, 16, 17, 33}) {
		t.Fatalf("%v", l)
	}
	want := []replica.Answer{{18, api.Reply{Left: 2}}, {16, api.Reply{Left: 3}},
		{17, api.Reply{Fills: []api.Fill{{Order: 16, Price: 5, Qty: 2}}}}, {33, api.Reply{Left: 1}}}
	got := p.r.Answers()
	if len(got) != len(want) {
		t.Fatalf("%v", got)
	}
	for i, a := range want {
		if got[i].ID != a.ID || !sameReply(got[i].Reply, a.Reply) {
			t.Errorf("%v, want %v", got[i], a)
		}
	}
	if v, w := p.r.Market().Turnover(0); v != 2 || w != 10 {
		t.Errorf("turned over: %d, %d", v, w)
	}
	// An error is an answer, too; and each is delivered once.
	p.do(t, receive(stable(1, 2, cancel(49, 0, 16), value(at(5, 1), first, second, third))))
	p.do(t, receive(stable(1, 2, cancel(49, 0, 16), value(at(5, 1), first, second, third))))
	if l := p.r.Answers(); len(l) != 5 || l[4].ID != 49 || l[4].Reply.Err != api.ErrNone {
		t.Errorf("%v", l)
	}
	// What may be done may do more than a market does.
	p.do(t, receive(stable(1, 2, api.Cmd{ID: 65, Symbol: 3}, value(at(6, 1)))))
	if l := p.r.Answers(); len(l) != 6 || l[5].ID != 65 || l[5].Reply.Err != api.ErrZero {
		t.Errorf("%v", l)
	}
}

// TestNothingChanged is that nothing is put into the journal where nothing changed, and what did is put with the index's clock.
func TestNothingChanged(t *testing.T) {
	p := newPair(t, 1, 5)
	mine, his := place(17, 0), place(16, 0)
	p.do(t, submit(place(0, 0)))
	was := p.d.Bytes()
	for _, m := range []api.Msg{okay(0, 1, mine, at(1, 1)), okay(0, 1, mine, at(1, 1)), refuse(2, 1, 0, mine, at(2, 1), at(9, 0)),
		promise(0, 1, 6, mine, at(8, 0)), accepted(3, 1, 1, mine), reject(0, 1, 5, mine, 8), reject(4, 1, 0, his, 9),
		okay(3, 1, his, at(1, 0)), stable(3, 1, sell(17, 0, 1, 1), value(at(3, 3)))} {
		is(t, p.do(t, receive(m)), 0, api.OK)
		if !isAs(p.d, was, len(was)) || p.r.Clock() != 1 {
			t.Fatalf("%s: put something", textOfMsg(m))
		}
	}
	for _, x := range []act{hurry(17), submit(api.Cmd{Symbol: 9}), timer(16), hurry(16), receive(api.Msg{Sort: 99})} {
		p.do(t, x)
		if !isAs(p.d, was, len(was)) {
			t.Fatalf("%s: put something", textOf(x))
		}
	}
	p.do(t, receive(stable(2, 1, mine, value(at(1, 1)))))
	was = p.d.Bytes()
	for _, x := range []act{timer(17), hurry(17)} {
		p.do(t, x)
		if !isAs(p.d, was, len(was)) {
			t.Fatalf("%s: put something", textOf(x))
		}
	}
}

// TestRecords is what a step puts: a record of each entry that changed, by names, rising, with the index's clock, once, and
// behind all that was put ahead.
func TestRecords(t *testing.T) {
	d := newDisk(t, roomy)
	r := on(t, 1, 3, d)
	a, b, c := place(18, 0), place(16, 0), place(34, 0)
	do(r, receive(propose(2, 1, 4, a, value(at(7, 2), b, c))))
	first := keeping(t, 7, entry.Entry{Cmd: b}, entry.Entry{Cmd: a, Promised: 4, Low: at(7, 2), High: at(7, 2), Freed: true},
		entry.Entry{Cmd: c})
	if !isAs(d, first.Bytes(), first.Synced()) {
		t.Fatalf("%d bytes, %d synced, want %d", len(d.Bytes()), d.Synced(), first.Synced())
	}
	do(r, receive(prepare(0, 1, 8, b)))
	second := keeping(t, 8, entry.Entry{Cmd: b, Promised: 8})
	if all := slices.Concat(first.Bytes(), second.Bytes()); !isAs(d, all, len(all)) {
		t.Fatalf("%d bytes, %d synced, want %d", len(d.Bytes()), d.Synced(), len(all))
	}
}
