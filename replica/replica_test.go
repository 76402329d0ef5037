package replica_test

import (
	"fmt"
	"strings"
	"testing"

	"lictor/api"
	"lictor/disk"
	"lictor/entry"
	"lictor/preds"
	"lictor/replica"
	"lictor/wire"
)

// roomy is room that no test here uses up.
const roomy = 1 << 20

const (
	leastNodes = api.MinNodes
	mostNodes  = api.MaxNodes
	lastClock  = api.MaxClock - 1
	lastName   = 16 * api.MaxSeq
)

func newDisk(t *testing.T, room int) *disk.Disk {
	t.Helper()
	d, err := disk.New(room)
	if err != api.OK {
		t.Fatal(err)
	}
	return d
}

// newReplica is one on an empty disk.
func newReplica(t *testing.T, node, n int) *replica.Replica {
	t.Helper()
	r, err := replica.New(node, n, newDisk(t, roomy))
	if err != api.OK {
		t.Fatalf("New(%d, %d): %v", node, n, err)
	}
	return r
}

// place is a command of a symbol: it buys 2 at 5.
func place(id, symbol int) api.Cmd { return api.Cmd{ID: id, Symbol: symbol, Price: 5, Qty: 2} }

// sell is one that sells.
func sell(id, symbol, price, qty int) api.Cmd {
	return api.Cmd{ID: id, Symbol: symbol, Side: api.Sell, Price: price, Qty: qty}
}

func cancel(id, symbol, target int) api.Cmd {
	return api.Cmd{ID: id, Kind: api.Cancel, Symbol: symbol, Target: target}
}

func value(t int, p ...api.Cmd) api.Value { return api.Value{T: t, P: p} }

// at is a timestamp.
func at(count, node int) int { return 16*count + node }

func propose(from, to, bal int, c api.Cmd, v api.Value) api.Msg {
	return api.Msg{Sort: api.Propose, From: from, To: to, Bal: bal, Cmd: c, V: v}
}

func exact(m api.Msg) api.Msg {
	m.Flag = true
	return m
}

// okay is one with Flag, at ballot 0.
func okay(from, to int, c api.Cmd, t int) api.Msg {
	return api.Msg{Sort: api.Okay, From: from, To: to, Cmd: c, V: value(t), Flag: true}
}

func refuse(from, to, bal int, c api.Cmd, t, s int, p ...api.Cmd) api.Msg {
	return api.Msg{Sort: api.Refuse, From: from, To: to, Bal: bal, Cmd: c, V: value(t, p...), S: s}
}

func prepare(from, to, bal int, c api.Cmd) api.Msg {
	return api.Msg{Sort: api.Prepare, From: from, To: to, Bal: bal, Cmd: c}
}

func promise(from, to, bal int, c api.Cmd, s int) api.Msg {
	return api.Msg{Sort: api.Promise, From: from, To: to, Bal: bal, Cmd: c, S: s}
}

func accept(from, to, bal int, c api.Cmd, v api.Value) api.Msg {
	return api.Msg{Sort: api.Accept, From: from, To: to, Bal: bal, Cmd: c, V: v}
}

func accepted(from, to, bal int, c api.Cmd) api.Msg {
	return api.Msg{Sort: api.Accepted, From: from, To: to, Bal: bal, Cmd: c}
}

func stable(from, to int, c api.Cmd, v api.Value) api.Msg {
	return api.Msg{Sort: api.Stable, From: from, To: to, Cmd: c, V: v}
}

func reject(from, to, bal int, c api.Cmd, ab int) api.Msg {
	return api.Msg{Sort: api.Reject, From: from, To: to, Bal: bal, Cmd: c, AB: ab}
}

// textOfMsg is a short text of a message.
func textOfMsg(m api.Msg) string {
	return fmt.Sprintf("%s from %d to %d of %d at %d: %d %v, %v, S %d, AB %d, A %d %v, F %d %v", wire.Name(m.Sort), m.From, m.To,
		m.Cmd.ID, m.Bal, m.V.T, preds.Ids(m.V.P), m.Flag, m.S, m.AB, m.A.T, preds.Ids(m.A.P), m.F.T, preds.Ids(m.F.P))
}

func textOfMsgs(l []api.Msg) string {
	var text []string
	for _, m := range l {
		text = append(text, textOfMsg(m))
	}
	return strings.Join(text, "\n")
}

func textOfSaid(s said) string {
	return fmt.Sprintf("%d, error %d, %s", s.name, s.err, textOfMsgs(s.sent))
}

func textOf(x any) string {
	if a, ok := x.(act); ok {
		return fmt.Sprintf("%s %d of %+v, or %s", a.kind, a.id, a.c, textOfMsg(a.m))
	}
	return fmt.Sprint(x)
}

func textOfEntries(l []entry.Entry) string {
	var text []string
	for _, e := range l {
		text = append(text, fmt.Sprintf("%d promised %d, from %d to %d, F %d %v, A %d %d %v, freed %v, done %v %d %v", e.Cmd.ID,
			e.Promised, e.Low, e.High, e.F.T, preds.Ids(e.F.P), e.AB, e.A.T, preds.Ids(e.A.P), e.Freed, e.Done, e.V.T, preds.Ids(e.V.P)))
	}
	return strings.Join(text, "; ")
}

// each goes through all replicas of all clusters that may be.
func each(f func(n, node int)) {
	for n := leastNodes; n <= mostNodes; n++ {
		for node := range n {
			f(n, node)
		}
	}
}

// all are a message to each other one than a replica of n, in order.
func all(n, node int, m api.Msg) []api.Msg {
	var l []api.Msg
	m.From = node
	for to := range n {
		if to != node {
			m.To = to
			l = append(l, m)
		}
	}
	return l
}

// is holds what was told against what is to be.
func is(t *testing.T, got said, name int, err api.Errno, sent ...api.Msg) {
	t.Helper()
	if want := (said{name, sent, err}); !sameSaid(got, want) {
		t.Fatalf("%s,\nwant %s", textOfSaid(got), textOfSaid(want))
	}
}

// hasEntry is a replica's entry of a name, held against what is to be.
func hasEntry(t *testing.T, r *replica.Replica, want entry.Entry) {
	t.Helper()
	for _, e := range r.Entries() {
		if e.Cmd.ID == want.Cmd.ID {
			if !entry.Same(e, want) {
				t.Fatalf("%s, want %s", textOfEntries([]entry.Entry{e}), textOfEntries([]entry.Entry{want}))
			}
			return
		}
	}
	t.Fatalf("no entry of %d", want.Cmd.ID)
}

// TestLife is a command's from its submission to its answer, at the replica that leads it, alone with what others tell it.
func TestLife(t *testing.T) {
	r := newReplica(t, 1, 3)
	c := place(17, 0)
	want := all(3, 1, propose(1, 0, 0, c, value(at(1, 1))))
	is(t, do(r, submit(place(0, 0))), 17, api.OK, want...)
	hasEntry(t, r, entry.Entry{Cmd: c, Low: at(1, 1), High: at(1, 1), F: value(at(1, 1))})
	is(t, do(r, receive(okay(0, 1, c, at(1, 1)))), 0, api.OK)
	is(t, do(r, receive(okay(2, 1, c, at(1, 1)))), 0, api.OK, all(3, 1, stable(1, 0, c, value(at(1, 1))))...)
	hasEntry(t, r, entry.Entry{Cmd: c, Low: at(1, 1), High: at(1, 1), F: value(at(1, 1)), Done: true, V: value(at(1, 1))})
	if l := r.Answers(); len(l) != 1 || l[0].ID != 17 || l[0].Reply.Left != 2 || l[0].Reply.Err != api.OK {
		t.Errorf("%v", l)
	}
	if l := r.Delivered(); len(l) != 1 || l[0] != 17 {
		t.Errorf("%v", l)
	}
	if l := r.Market().Orders(0, api.Buy); len(l) != 1 || l[0].ID != 17 {
		t.Errorf("%v", l)
	}
	if r.Halted() {
		t.Error("halted")
	}
}
