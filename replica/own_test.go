package replica_test

import (
	"fmt"
	"slices"
	"testing"

	"lictor/api"
	"lictor/entry"
)

// roomyMsg is a message whose sets have room behind their length, in which commands lie that nobody may look at.
func roomyMsg(m api.Msg) api.Msg {
	m.V.P, m.A.P, m.F.P = roomySet(m.V.P), roomySet(m.A.P), roomySet(m.F.P)
	return m
}

func roomySet(l []api.Cmd) []api.Cmd {
	all := append(slices.Clone(l), place(16, 1), api.Cmd{ID: 17, Kind: 9}, api.Cmd{ID: -1})
	return all[:len(l):len(all)]
}

// whole is all that lies in a message's sets, also behind their length.
func whole(m api.Msg) string {
	text := ""
	for _, p := range [][]api.Cmd{m.V.P, m.A.P, m.F.P} {
		text += fmt.Sprint(len(p), p[:cap(p)])
	}
	return text
}

// spoil writes into sets, also behind their length.
func spoil(l ...api.Msg) {
	for _, m := range l {
		for _, p := range [][]api.Cmd{m.V.P, m.A.P, m.F.P} {
			p = p[:cap(p)]
			for i := range p {
				p[i] = api.Cmd{ID: -7}
			}
		}
	}
}

// spoils has both do an act, and then writes into all that the replica was handed, and told.
func (p *pair) spoils(t *testing.T, x act) {
	t.Helper()
	ours := x
	ours.m = roomyMsg(x.m)
	before := whole(ours.m)
	got, want := do(p.r, ours), p.w.do(x)
	if !sameSaid(got, want) {
		t.Fatalf("%s: %s, want %s", textOf(x), textOfSaid(got), textOfSaid(want))
	}
	if whole(ours.m) != before {
		t.Fatalf("%s: wrote into it", textOf(x))
	}
	for i, m := range got.sent {
		text := fmt.Sprint(got.sent[i+1:])
		spoil(m)
		if fmt.Sprint(got.sent[i+1:]) != text {
			t.Fatalf("%s: told one set to two", textOf(x))
		}
	}
	clear(got.sent[:cap(got.sent)])
	spoil(ours.m)
	p.spoilsAsked(t)
	p.look(t, x)
}

// spoilsAsked writes into all lists that are asked for.
func (p *pair) spoilsAsked(t *testing.T) {
	t.Helper()
	r := p.r
	entries, names, answers := r.Entries(), r.Delivered(), r.Answers()
	for _, a := range answers {
		for i := range a.Reply.Fills {
			a.Reply.Fills[i] = api.Fill{Order: -3}
		}
	}
	clear(entries[:cap(entries)])
	clear(names[:cap(names)])
	clear(answers[:cap(answers)])
}

// TestOwn is rule 4: what is handed in stays as it was, and behind its length, too; nothing that is kept hangs on it, or on
// what was told: all of it is written into, and what is told and done behind that is the words' own.
func TestOwn(t *testing.T) {
	x, y, z := sell(16, 0, 5, 3), place(32, 0), place(48, 0)
	mine := place(17, 0)
	bound := promise(2, 1, 3, mine, at(9, 2))
	bound.AB, bound.A, bound.F, bound.V.P = 2, value(at(8, 2), x, y), value(at(7, 2), x), []api.Cmd{y, z}
	late := bound
	late.From, late.AB, late.A = 0, 0, api.Value{}
	for _, row := range [][]act{
		{receive(propose(0, 1, 0, x, value(at(1, 0)))), submit(place(0, 0)), receive(okay(0, 1, mine, at(1, 1))), receive(okay(2, 1, mine, at(1, 1)))},
		{receive(propose(0, 1, 0, z, value(at(3, 0), x, y))), receive(propose(2, 1, 0, z, value(at(3, 0), x, y))), receive(prepare(2, 1, 4, z)),
			receive(accept(2, 1, 4, z, value(at(4, 0), x, y))), receive(prepare(0, 1, 5, z)), receive(stable(2, 1, z, value(at(4, 0), x, y))),
			receive(prepare(0, 1, 5, z)), timer(48), timer(48)},
		{submit(place(0, 0)), receive(refuse(0, 1, 0, mine, at(1, 1), at(4, 0), x)), receive(refuse(2, 1, 0, mine, at(1, 1), at(5, 0), y, z)),
			timer(17), receive(bound), receive(late), receive(accepted(0, 1, 3, mine)), receive(accepted(2, 1, 3, mine)), timer(17)},
		{submit(place(0, 0)), timer(17), receive(late), receive(okay(0, 1, mine, at(7, 2))), timer(17)},
		{receive(propose(0, 1, 0, z, value(at(3, 0), x, y))), receive(propose(2, 1, 0, y, value(at(2, 2), x))), receive(propose(0, 1, 0, y, value(at(2, 2), x))),
			receive(stable(2, 1, z, value(at(3, 0), x, y))), receive(stable(2, 1, y, value(at(2, 2), x))), receive(stable(2, 1, x, value(at(1, 2)))),
			receive(propose(0, 1, 0, y, value(at(2, 2), x))), timer(16), timer(32)},
	} {
		p := newPair(t, 1, 3)
		for _, a := range row {
			p.spoils(t, a)
		}
		// As it was on the disk all the time.
		forgetsNothing(t, p.r, p.d, 1, 3)
		q := onDisk(t, 1, 3, p.d)
		q.spoilsAsked(t)
		q.look(t, "New")
	}
}

// TestApart is that two replicas share nothing, also where one's disk is a clone of the other's.
func TestApart(t *testing.T) {
	d := keeping(t, 3, done(sell(16, 0, 5, 3), at(1, 0)))
	one, two := on(t, 1, 3, d.Clone()), on(t, 2, 3, d.Clone())
	was := textOfEntries(two.Entries())
	do(one, submit(place(0, 0)))
	do(one, receive(okay(0, 1, place(33, 0), at(4, 1))))
	one.Break()
	if textOfEntries(two.Entries()) != was || two.Clock() != 3 || two.Halted() {
		t.Error("one changed the other one")
	}
	do(one, receive(okay(2, 1, place(33, 0), at(4, 1))))
	if !one.Halted() || two.Halted() {
		t.Error("halted")
	}
	is(t, do(two, timer(16)), 0, api.OK, all(3, 2, stable(2, 0, sell(16, 0, 5, 3), value(at(1, 0))))...)
	if l := two.Entries(); len(l) != 1 || !entry.Same(l[0], done(sell(16, 0, 5, 3), at(1, 0))) {
		t.Errorf("%s", textOfEntries(l))
	}
}

// TestMarketToBeRead is that the market is the thing itself: it has what is delivered from then on.
func TestMarketToBeRead(t *testing.T) {
	r := newReplica(t, 1, 3)
	m := r.Market()
	do(r, receive(stable(0, 1, sell(16, 0, 5, 3), value(at(1, 0)))))
	if m != r.Market() || len(m.Orders(0, api.Sell)) != 1 {
		t.Error("another one")
	}
}
