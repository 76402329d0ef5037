package voter_test

import (
	"fmt"
	"math"
	"slices"
	"testing"

	"lictor/api"
	"lictor/entry"
	"lictor/index"
	"lictor/voter"
	"lictor/wire"
)

// What the document says, by its numbers.
const (
	replicas   = 9
	lastClock  = 65535
	leastStamp = 16
	lastStamp  = 16*65535 + 8
	mostBallot = 1 << 20
	mostSeq    = 256
	mostPreds  = 1024
)

// me is the replica whose voter it is, in most tests.
const me = 4

// at is the timestamp of a count, of a replica.
func at(count, node int) int { return 16*count + node }

// place, cancel and amend are commands of a name and a symbol, as short as can be.
func place(id, symbol int) api.Cmd {
	return api.Cmd{ID: id, Kind: api.Place, Symbol: symbol, Side: api.Sell, Price: 5, Qty: id % 7}
}

func cancel(id, symbol, target int) api.Cmd {
	return api.Cmd{ID: id, Kind: api.Cancel, Symbol: symbol, Target: target}
}

func amend(id, symbol, target, qty int) api.Cmd {
	return api.Cmd{ID: id, Kind: api.Amend, Symbol: symbol, Target: target, Qty: qty}
}

func value(t int, p ...api.Cmd) api.Value { return api.Value{T: t, P: p} }

// bare is a command's entry with nothing else; the others have more of it.
func bare(c api.Cmd) entry.Entry { return entry.Entry{Cmd: c} }

func reserved(e entry.Entry, low, high int) entry.Entry {
	e.Low, e.High = low, high
	return e
}

func promised(e entry.Entry, b int) entry.Entry {
	e.Promised = b
	return e
}

func voted(e entry.Entry, v api.Value) entry.Entry {
	e.F = v
	return e
}

func accepted(e entry.Entry, b int, v api.Value) entry.Entry {
	e.AB, e.A = b, v
	return e
}

func freed(e entry.Entry) entry.Entry {
	e.Freed = true
	return e
}

func done(e entry.Entry, v api.Value) entry.Entry {
	e.Done, e.V = true, v
	return e
}

// propose, prepare, accept and stable are messages to the voter, of a replica; exact is one with Flag.
func propose(from, bal int, c api.Cmd, v api.Value) api.Msg {
	return api.Msg{Sort: api.Propose, From: from, To: me, Bal: bal, Cmd: c, V: v}
}

func exact(m api.Msg) api.Msg {
	m.Flag = true
	return m
}

func prepare(from, bal int, c api.Cmd) api.Msg {
	return api.Msg{Sort: api.Prepare, From: from, To: me, Bal: bal, Cmd: c}
}

func accept(from, bal int, c api.Cmd, v api.Value) api.Msg {
	return api.Msg{Sort: api.Accept, From: from, To: me, Bal: bal, Cmd: c, V: v}
}

func stable(from int, c api.Cmd, v api.Value) api.Msg {
	return api.Msg{Sort: api.Stable, From: from, To: me, Cmd: c, V: v}
}

// answer is one of a sort to a message.
func answer(s api.Sort, m api.Msg) api.Msg {
	return api.Msg{Sort: s, From: me, To: m.From, Bal: m.Bal, Cmd: m.Cmd}
}

// okay is the answer with what comes ahead, and without Flag; quick is the one with Flag, and with nothing.
func okay(m api.Msg, p ...api.Cmd) api.Msg {
	a := answer(api.Okay, m)
	a.V = value(m.V.T, p...)
	return a
}

func quick(m api.Msg) api.Msg { return exact(okay(m)) }

func refuse(m api.Msg, s int, p ...api.Cmd) api.Msg {
	a := answer(api.Refuse, m)
	a.V, a.S = value(m.V.T, p...), s
	return a
}

// promise is the answer of one that has an entry.
func promise(m api.Msg, e entry.Entry, s int, p ...api.Cmd) api.Msg {
	a := answer(api.Promise, m)
	a.V.P, a.S, a.Flag, a.F, a.AB, a.A = p, s, e.Freed, e.F, e.AB, e.A
	return a
}

func reject(m api.Msg, ab int) api.Msg {
	a := answer(api.Reject, m)
	a.AB = ab
	return a
}

// settled is the answer that a command is done with a value.
func settled(m api.Msg, v api.Value) api.Msg {
	a := answer(api.Stable, m)
	a.Bal, a.V = 0, v
	return a
}

func list(l ...entry.Entry) []entry.Entry { return l }

func msgs(l ...api.Msg) []api.Msg { return l }

func cmds(l ...api.Cmd) []api.Cmd { return l }

// made is a voter with an index of these, of which nothing changed.
func made(t *testing.T, clock int, l ...entry.Entry) *voter.Voter {
	t.Helper()
	x, err := index.New(me, clock, l...)
	if err != api.OK {
		t.Fatalf("index.New(%d, %s): %d", clock, short(l), err)
	}
	v, err := voter.New(x)
	if v == nil || err != api.OK {
		t.Fatalf("New: %v %d", v, err)
	}
	return v
}

// short is how something is printed, but no more than its beginning, as a set may be long.
func short(x any) string {
	s := fmt.Sprintf("%+v", x)
	return s[:min(len(s), 1000)]
}

// same tells whether two lists of messages are the same, one by one.
func same(a, b []api.Msg) bool { return slices.EqualFunc(a, b, wire.Same) }

// tells has a voter take a message, and tells whether its answers are just these, which may be.
func tells(t *testing.T, v *voter.Voter, m api.Msg, want ...api.Msg) {
	t.Helper()
	got := v.Handle(m)
	if !same(got, want) {
		t.Errorf("%s: told %s, not %s", short(m), short(got), short(want))
	}
	for _, a := range got {
		if !wire.Right(a) {
			t.Errorf("%s: told %s, which may not be", short(m), short(a))
		}
	}
}

// has tells whether a voter's index has just that clock, and just these entries, and what changed since that was asked.
func has(t *testing.T, v *voter.Voter, clock int, changed []int, l ...entry.Entry) {
	t.Helper()
	if v.Clock() != clock {
		t.Errorf("clock %d, not %d", v.Clock(), clock)
	}
	if all := v.All(); !slices.EqualFunc(all, l, entry.Same) {
		t.Errorf("has %s, not %s", short(all), short(l))
	}
	if got := v.Changed(); !slices.Equal(got, changed) {
		t.Errorf("changed %v, not %v", got, changed)
	}
}

func names(l ...int) []int { return l }

// waits tells whether just these wait, in order, and it isn't over.
func waits(t *testing.T, v *voter.Voter, want ...api.Msg) {
	t.Helper()
	if got := v.Waiting(); !same(got, want) || v.Over() {
		t.Errorf("wait %s, not %s; over: %t", short(got), short(want), v.Over())
	}
}

// TestNew is P14.1 (V1): New of nil, and of an index, which is the voter's own one.
func TestNew(t *testing.T) {
	if v, err := voter.New(nil); v != nil || err != api.ErrArg {
		t.Errorf("New(nil): %v %d", v, err)
	}
	c, d := place(17, 0), place(33, 0)
	x, _ := index.New(7, 5, reserved(bare(c), at(2, 0), at(2, 0)))
	v, err := voter.New(x)
	if err != api.OK || v == nil || v.Index != x {
		t.Fatalf("New: %v %d", v, err)
	}
	waits(t, v)
	has(t, v, 5, nil, reserved(bare(c), at(2, 0), at(2, 0)))
	// What is done with the one is done with the other.
	if got := v.Handle(propose(1, 0, d, value(at(9, 1)))); len(got) != 1 || got[0].From != 7 || got[0].To != 1 {
		t.Errorf("told %s", short(got))
	}
	if e, ok := x.Get(33); !ok || e.Low != at(9, 1) || x.Clock() != 9 {
		t.Errorf("has %s, clock %d", short(e), x.Clock())
	}
	x.See(at(20, 0))
	if got := v.Handle(prepare(2, 3, d)); len(got) != 1 || got[0].S != at(21, 7) || x.Clock() != 21 {
		t.Errorf("told %s", short(got))
	}
}

// TestPromoted is P14.1 (V1): the index's calls are asked through the voter, and tell what they tell.
func TestPromoted(t *testing.T) {
	a, b := place(17, 1), place(33, 1)
	v := made(t, 3, reserved(bare(a), at(2, 0), at(6, 0)))
	if v.Node() != me || v.Clock() != 6 {
		t.Errorf("%d %d", v.Node(), v.Clock())
	}
	v.See(at(8, 1))
	if s, err := v.Tick(); s != at(9, me) || err != api.OK {
		t.Errorf("Tick: %d %d", s, err)
	}
	if err := v.Learn(b, cancel(33, 1, 17)); err != api.ErrTwice {
		t.Errorf("Learn: %d", err)
	}
	if err := v.Learn(b); err != api.OK {
		t.Errorf("Learn: %d", err)
	}
	if e, ok := v.Get(33); !ok || !entry.Same(e, bare(b)) {
		t.Errorf("Get: %s %t", short(e), ok)
	}
	if p := v.Pred(b, at(3, 0)); !slices.Equal(p, cmds(a)) {
		t.Errorf("Pred: %v", p)
	}
	if l := v.Holders(b, at(5, 0)); !slices.Equal(l, names(17)) {
		t.Errorf("Holders: %v", l)
	}
	if l := v.Absent(b, at(5, 0), nil, false); !slices.Equal(l, names(17)) {
		t.Errorf("Absent: %v", l)
	}
	if err := v.Put(done(bare(a), value(at(12, 0)))); err != api.OK {
		t.Errorf("Put: %d", err)
	}
	if l := v.Killers(b, at(5, 0)); !slices.Equal(l, names(17)) {
		t.Errorf("Killers: %v", l)
	}
	has(t, v, 12, names(17, 33), done(bare(a), value(at(12, 0))), bare(b))
	// What was put so, is what is gone by.
	tells(t, v, propose(1, 0, b, value(at(7, 0))), refuse(propose(1, 0, b, value(at(7, 0))), at(13, me), a))
}

// others are messages that may be, of the sorts that a voter doesn't take.
func others(c api.Cmd, v api.Value) []api.Msg {
	head := api.Msg{From: 2, To: me, Bal: 3, Cmd: c}
	var l []api.Msg
	for _, s := range []api.Sort{api.Okay, api.Refuse, api.Promise, api.Accepted, api.Reject} {
		m := head
		m.Sort = s
		switch s {
		case api.Okay:
			m.V, m.Flag = v, true
		case api.Refuse:
			m.V, m.S = v, at(70, 0)
		case api.Promise:
			m.V.P, m.S, m.Flag, m.F, m.AB, m.A = v.P, at(70, 0), true, v, 2, v
		case api.Reject:
			m.AB = 9
		}
		l = append(l, m)
	}
	return l
}

// TestOtherSorts is P14.1 (V1): what isn't of the four sorts is not taken: nothing of it is learned, or seen.
func TestOtherSorts(t *testing.T) {
	c, d := place(17, 0), place(33, 0)
	first := reserved(bare(c), at(2, 0), at(9, 0))
	v := made(t, 0, first)
	held := propose(3, 0, d, value(at(5, 0)))
	tells(t, v, held)
	has(t, v, 9, names(33), first, bare(d))
	for _, m := range slices.Concat(others(c, value(at(60, 0), d)), others(d, value(at(5, 0), c)), others(place(48, 2), value(at(60, 0), place(64, 3)))) {
		if !wire.Right(m) {
			t.Fatalf("%s may not be", short(m))
		}
		tells(t, v, m)
		waits(t, v, held)
		has(t, v, 9, nil, first, bare(d))
	}
}

// wrongMsgs are messages that may not be, each by one part.
func wrongMsgs() []api.Msg {
	c, v := place(17, 0), value(at(60, 0), place(33, 0), place(48, 0))
	var l []api.Msg
	for _, m := range msgs(propose(1, 2, c, v), exact(propose(1, 2, c, v)), prepare(1, 2, c), accept(1, 2, c, v), stable(1, c, v)) {
		with := func(change func(m *api.Msg)) {
			n := m
			change(&n)
			l = append(l, n)
		}
		for _, n := range []int{math.MinInt, -1, replicas, math.MaxInt} {
			with(func(m *api.Msg) { m.From = n })
			with(func(m *api.Msg) { m.To = n })
		}
		for _, s := range []api.Sort{math.MinInt, -1, 9, 16, math.MaxInt} {
			with(func(m *api.Msg) { m.Sort = s })
		}
		for _, n := range []int{math.MinInt, -1, mostBallot + 1, math.MaxInt} {
			with(func(m *api.Msg) { m.Bal = n })
			with(func(m *api.Msg) { m.AB = n })
		}
		for _, c := range cmds(api.Cmd{}, place(15, 0), place(25, 0), place(17, 4), cancel(17, 0, 0), amend(17, 0, 33, -1)) {
			with(func(m *api.Msg) { m.Cmd = c })
			with(func(m *api.Msg) { m.V.P = cmds(c) })
		}
		for _, n := range []int{math.MinInt, -1, 15, 25, lastStamp + 1, math.MaxInt} {
			with(func(m *api.Msg) { m.V.T = n })
			with(func(m *api.Msg) { m.S = n })
		}
		with(func(m *api.Msg) { m.S = at(60, 0) })
		with(func(m *api.Msg) { m.AB = 1 })
		with(func(m *api.Msg) { m.A = v })
		with(func(m *api.Msg) { m.F = v })
		with(func(m *api.Msg) { m.V.P = cmds(place(48, 0), place(33, 0)) })
		with(func(m *api.Msg) { m.V.P = cmds(place(33, 0), place(33, 0)) })
		if m.Sort != api.Propose {
			with(func(m *api.Msg) { m.Flag = true })
		}
		if m.Sort == api.Prepare {
			with(func(m *api.Msg) { m.V.T = at(60, 0) })
		} else {
			with(func(m *api.Msg) { m.V.T = 0 })
		}
	}
	return l
}

// TestMayNotBe is P14.1 (V1): a message that may not be is not taken.
func TestMayNotBe(t *testing.T) {
	first := reserved(bare(place(33, 0)), at(2, 0), at(9, 0))
	v := made(t, 3, first)
	for _, m := range wrongMsgs() {
		if wire.Right(m) {
			t.Fatalf("%s may be", short(m))
		}
		tells(t, v, m)
		waits(t, v)
		has(t, v, 9, nil, first)
	}
}

// TestToAnother is P14.1 (V1): which replica a message is to, the voter doesn't ask; a message of its own replica is taken
// as any other one.
func TestToAnother(t *testing.T) {
	for to := range replicas {
		for from := range replicas {
			v := made(t, 0)
			m := propose(from, 0, place(17, 0), value(at(3, 1)))
			m.To = to
			tells(t, v, m, quick(m))
		}
	}
}

// withP are messages of the three sorts that have a V.
func withP(c api.Cmd, v api.Value) []api.Msg {
	return msgs(propose(1, 2, c, v), exact(propose(1, 2, c, v)), accept(1, 2, c, v), stable(1, c, v))
}

// TestLearns is P14.1 (V1): a command that the index has not, and that it has, and those of V's P.
func TestLearns(t *testing.T) {
	c, p, q, r := place(48, 0), place(17, 0), cancel(33, 1, 17), amend(64, 2, 17, 5)
	v := made(t, 0)
	m := prepare(1, 2, c)
	tells(t, v, m, promise(m, bare(c), at(1, me)))
	has(t, v, 1, names(48), promised(bare(c), 2))
	tells(t, v, m, promise(m, bare(c), at(2, me)))
	has(t, v, 2, names(48), promised(bare(c), 2))
	for _, m := range withP(c, value(at(60, 0), p, q, r)) {
		// One has nothing, one some of it, one all of P, one the command, and one that and some of P.
		for _, had := range [][]entry.Entry{nil, list(bare(q)), list(bare(p), bare(q), bare(r)), list(bare(c)), list(bare(p), bare(c))} {
			v := made(t, 0, had...)
			v.Handle(m)
			e, ok := v.Get(48)
			want := names(17, 33, 48, 64)
			for _, h := range had {
				if h.Cmd != c {
					want = slices.DeleteFunc(want, func(id int) bool { return id == h.Cmd.ID })
				}
			}
			has(t, v, 60, want, bare(p), bare(q), e, bare(r))
			if !ok || e.Cmd != c || entry.Same(e, bare(c)) {
				t.Errorf("%s: has %s", short(m), short(e))
			}
		}
	}
	// What has its own command among its P is learned, too.
	for _, m := range withP(c, value(at(60, 0), p, c)) {
		v := made(t, 0)
		v.Handle(m)
		if l := v.All(); len(l) != 2 || l[0].Cmd != p || l[1].Cmd != c {
			t.Errorf("%s: has %s", short(m), short(l))
		}
	}
}

// TestAnotherCommand is P14.1 (V1): where the index has another command of a name, be it the message's own one, or one of
// V's P, or these two are two of one name, nothing is done at all: nothing is learned, seen, put, or answered.
func TestAnotherCommand(t *testing.T) {
	c, p, q := place(48, 0), place(17, 0), place(33, 0)
	held := propose(3, 0, place(65, 0), value(at(7, 0)))
	for _, x := range []struct {
		c api.Cmd
		p []api.Cmd
	}{
		{cancel(33, 0, 17), cmds(p)},
		{place(33, 1), cmds(p)},
		{c, cmds(p, place(33, 1))},
		{c, cmds(cancel(33, 0, 17), place(64, 0))},
		{c, cmds(p, q, place(48, 1))},
		{c, cmds(p, cancel(48, 0, 17), place(64, 0))},
		{place(65, 3), cmds(p)},
	} {
		for _, m := range append(withP(x.c, value(at(60, 0), x.p...)), prepare(1, 2, x.c)) {
			if m.Sort == api.Prepare && x.c == c {
				continue
			}
			first := reserved(bare(q), at(2, 0), at(9, 0))
			v := made(t, 3, first)
			tells(t, v, held)
			has(t, v, 9, names(65), first, bare(held.Cmd))
			tells(t, v, m)
			has(t, v, 9, nil, first, bare(held.Cmd))
			waits(t, v, held)
		}
	}
}

// TestSees is P14.1 (V1): V's T is seen, whatever is answered, also where nothing is.
func TestSees(t *testing.T) {
	c := place(17, 0)
	late := value(at(60, 3))
	for _, x := range []struct {
		e entry.Entry
		m api.Msg
	}{
		{bare(c), propose(1, 0, c, late)},
		{promised(bare(c), 5), propose(1, 4, c, late)},
		{promised(bare(c), 5), accept(1, 4, c, late)},
		{bare(c), accept(1, 4, c, late)},
		{bare(c), accept(1, 0, c, late)},
		{bare(c), stable(1, c, late)},
		{done(bare(c), value(at(3, 0))), stable(1, c, late)},
		{done(bare(c), value(at(3, 0))), accept(1, 4, c, late)},
		{done(bare(c), value(at(3, 0))), propose(1, 4, c, late)},
	} {
		v := made(t, 0, x.e)
		v.Handle(x.m)
		if v.Clock() != 60 {
			t.Errorf("%s: clock %d", short(x.m), v.Clock())
		}
		// One that is below the clock changes it not.
		v = made(t, 61, x.e)
		v.Handle(x.m)
		if v.Clock() != 61 {
			t.Errorf("%s: clock %d", short(x.m), v.Clock())
		}
	}
	// It is seen ahead of S, which is above it.
	killer := done(bare(place(33, 0)), value(at(70, 0)))
	for _, node := range []int{0, me, 8} {
		v := made(t, 0, killer)
		m := propose(1, 0, c, value(at(69, node)))
		tells(t, v, m, refuse(m, at(71, me), killer.Cmd))
	}
	v := made(t, 0)
	m := exact(propose(1, 0, c, value(at(90, 8))))
	v.Put(done(bare(place(33, 0)), value(at(5, 0))))
	tells(t, v, m, refuse(m, at(91, me), place(33, 0)))
}
