package leader_test

import (
	"fmt"
	"math"
	"slices"
	"testing"

	"lictor/api"
	"lictor/leader"
	"lictor/wire"
)

// What the document says, by its numbers.
const (
	leastNodes = 3
	mostNodes  = 9
	lastStamp  = 16*65535 + 8
	mostBallot = 1 << 20
	mostPreds  = 1024
)

// classic and fast are how many are such a quorum of n.
func classic(n int) int { return []int{2, 3, 3, 4, 4, 5, 5}[n-leastNodes] }

func fast(n int) int { return []int{3, 3, 4, 5, 6, 6, 7}[n-leastNodes] }

// at is the timestamp of a count, of a replica.
func at(count, node int) int { return 16*count + node }

// place and cancel are commands of a name, as short as can be.
func place(id, price int) api.Cmd { return api.Cmd{ID: id, Side: api.Sell, Price: price, Qty: 2} }

func cancel(id, target int) api.Cmd { return api.Cmd{ID: id, Kind: api.Cancel, Target: target} }

// led is the command that is led, in most tests, and first what is proposed for it.
func led() api.Cmd { return place(49, 5) }

func first() api.Value { return value(at(20, 1), place(17, 5), cancel(34, 17)) }

// many are commands of the first n names.
func many(n int) []api.Cmd {
	var l []api.Cmd
	for id := 16; len(l) < n; id++ {
		if id%16 <= 8 {
			l = append(l, place(id, 5))
		}
	}
	return l
}

func value(t int, p ...api.Cmd) api.Value { return api.Value{T: t, P: p} }

func none() api.Value { return api.Value{} }

// The replies of a replica, to whom is told where they are handed in.

func okay(from, bal, t int, p ...api.Cmd) api.Msg {
	return api.Msg{Sort: api.Okay, From: from, Bal: bal, Cmd: led(), V: value(t, p...)}
}

// yes is an okay with Flag, to what is proposed first, and so a quick one.
func yes(from int) api.Msg { return flagged(okay(from, 0, first().T)) }

func refuse(from, bal, t, s int, p ...api.Cmd) api.Msg {
	return api.Msg{Sort: api.Refuse, From: from, Bal: bal, Cmd: led(), V: value(t, p...), S: s}
}

func promise(from, bal, s int, p ...api.Cmd) api.Msg {
	return api.Msg{Sort: api.Promise, From: from, Bal: bal, Cmd: led(), V: value(0, p...), S: s}
}

func accepted(from, bal int) api.Msg {
	return api.Msg{Sort: api.Accepted, From: from, Bal: bal, Cmd: led()}
}

func reject(from, bal, ab int) api.Msg {
	return api.Msg{Sort: api.Reject, From: from, Bal: bal, Cmd: led(), AB: ab}
}

func stable(from int, v api.Value) api.Msg {
	return api.Msg{Sort: api.Stable, From: from, Cmd: led(), V: v}
}

func flagged(m api.Msg) api.Msg {
	m.Flag = true
	return m
}

func voted(m api.Msg, f api.Value) api.Msg {
	m.F = f
	return m
}

func bound(m api.Msg, ab int, a api.Value) api.Msg {
	m.AB, m.A = ab, a
	return m
}

func of(m api.Msg, c api.Cmd) api.Msg {
	m.Cmd = c
	return m
}

func msgs(l ...api.Msg) []api.Msg { return l }

// short is how something is printed, but no more than its beginning, as a set may be long.
func short(x any) string {
	s := fmt.Sprintf("%+v", x)
	return s[:min(len(s), 600)]
}

func sameValue(a, b api.Value) bool { return a.T == b.T && slices.Equal(a.P, b.P) }

func same(a, b []api.Msg) bool { return slices.EqualFunc(a, b, wire.Same) }

// to are the messages like one, of a command, to each replica, by their numbers.
func to(n, node int, m api.Msg) []api.Msg {
	l := make([]api.Msg, n)
	for i := range l {
		m.From, m.To = node, i
		l[i] = m
	}
	return l
}

// game is a leader that is played with, and where its attempt was last.
type game struct {
	t       *testing.T
	l       *leader.Leader
	node, n int
	phase   leader.Phase
	bal     int
	v       api.Value
}

func play(t *testing.T, n, node int) *game {
	t.Helper()
	l, err := leader.New(node, n)
	if err != api.OK || l == nil {
		t.Fatalf("New(%d, %d): %d", node, n, err)
	}
	return &game{t: t, l: l, node: node, n: n}
}

// each asks for any cluster, and any of its replicas.
func each(f func(n, node int)) {
	for n := leastNodes; n <= mostNodes; n++ {
		for node := range n {
			f(n, node)
		}
	}
}

// hand hands in a reply, to its number.
func (g *game) hand(m api.Msg) []api.Msg {
	m.To = g.node
	return g.l.Handle(m)
}

// hands hands in replies that tell nothing, and change nothing that At tells.
func (g *game) hands(l ...api.Msg) {
	g.t.Helper()
	for _, m := range l {
		g.waits(g.hand(m))
	}
}

// own is its ballot of a round.
func (g *game) own(round int) int { return 2 + g.n*round + g.node }

// told tells whether one message to all was told, and where the attempt is behind it.
func (g *game) told(got []api.Msg, m api.Msg, phase leader.Phase, bal int, v api.Value) {
	g.t.Helper()
	m.Cmd = led()
	if want := to(g.n, g.node, m); !same(got, want) {
		g.t.Fatalf("of %d, %d: told %s, not %s", g.n, g.node, short(got), short(want))
	}
	g.isAt(phase, bal, v)
}

func (g *game) isAt(phase leader.Phase, bal int, v api.Value) {
	g.t.Helper()
	p, b, x := g.l.At(led().ID)
	if p != phase || b != bal || !sameValue(x, v) {
		g.t.Fatalf("of %d, %d: at %d %d %s, not %d %d %s", g.n, g.node, p, b, short(x), phase, bal, short(v))
	}
	g.phase, g.bal, g.v = phase, bal, v
}

func (g *game) starts(got []api.Msg, v api.Value) {
	g.t.Helper()
	g.told(got, api.Msg{Sort: api.Propose, V: v}, leader.Asking, 0, v)
}

func (g *game) takes(got []api.Msg, bal int) {
	g.t.Helper()
	g.told(got, api.Msg{Sort: api.Prepare, Bal: bal}, leader.Taking, bal, none())
}

func (g *game) proposes(got []api.Msg, bal int, v api.Value, exact bool) {
	g.t.Helper()
	g.told(got, api.Msg{Sort: api.Propose, Bal: bal, V: v, Flag: exact}, leader.Proposing, bal, v)
}

func (g *game) closes(got []api.Msg, bal int, v api.Value) {
	g.t.Helper()
	g.told(got, api.Msg{Sort: api.Accept, Bal: bal, V: v}, leader.Closing, bal, v)
}

func (g *game) finishes(got []api.Msg, v api.Value) {
	g.t.Helper()
	g.told(got, api.Msg{Sort: api.Stable, V: v}, leader.Nothing, 0, none())
}

// waits tells whether nothing was told, and the attempt is where it was.
func (g *game) waits(got []api.Msg) {
	g.t.Helper()
	if len(got) > 0 {
		g.t.Fatalf("of %d, %d: told %s", g.n, g.node, short(got))
	}
	g.isAt(g.phase, g.bal, g.v)
}

// gone tells whether nothing was told, and there is no attempt any more.
func (g *game) gone(got []api.Msg) {
	g.t.Helper()
	if len(got) > 0 {
		g.t.Fatalf("of %d, %d: told %s", g.n, g.node, short(got))
	}
	g.isAt(leader.Nothing, 0, none())
}

// start starts what is proposed first.
func (g *game) start() {
	g.t.Helper()
	g.starts(g.l.Start(led(), first()), first())
}

// take takes over with its ballot of a round.
func (g *game) take(round int) {
	g.t.Helper()
	g.takes(g.l.Take(led(), g.own(round)), g.own(round))
}

// TestPhases is P16.1 (L1): the phases.
func TestPhases(t *testing.T) {
	if leader.Nothing != 0 || leader.Asking != 1 || leader.Taking != 2 || leader.Proposing != 3 || leader.Closing != 4 {
		t.Errorf("%d %d %d %d %d", leader.Nothing, leader.Asking, leader.Taking, leader.Proposing, leader.Closing)
	}
}

// TestNew is P16.1 (L1): a new leader has no attempts; of what may not be n, or is no replica of theirs, there is none.
func TestNew(t *testing.T) {
	ends := []int{math.MinInt, math.MinInt32, -9, -1, 0, 1, 2, 3, 4, 5, 6, 7, 8, 9, 10, 11, 16, 1 << 32, 1<<32 + 3, math.MaxInt}
	for _, n := range ends {
		for _, node := range ends {
			l, err := leader.New(node, n)
			right := leastNodes <= n && n <= mostNodes && 0 <= node && node < n
			if right != (err == api.OK) || right != (l != nil) || !right && err != api.ErrArg {
				t.Errorf("New(%d, %d): %v %d", node, n, l, err)
			}
			for _, id := range []int{math.MinInt, -1, 0, 16, 49, math.MaxInt} {
				if p, b, v := l.At(id); p != leader.Nothing || b != 0 || !sameValue(v, none()) {
					t.Errorf("New(%d, %d) is at %d %d %v", node, n, p, b, v)
				}
			}
		}
	}
}

// TestDocument is the sixth of the document's nine examples.
func TestDocument(t *testing.T) {
	g := play(t, 5, 1)
	g.start()
	g.hands(yes(0), yes(1), yes(4))
	g.finishes(g.hand(yes(3)), first())

	g = play(t, 5, 1)
	g.start()
	g.hands(okay(0, 0, first().T, place(18, 1)), okay(4, 0, first().T, place(32, 1), cancel(34, 17)))
	all := value(first().T, place(17, 5), place(18, 1), place(32, 1), cancel(34, 17))
	g.closes(g.hand(okay(2, 0, first().T, place(18, 1))), 1, all)
	g.hands(accepted(3, 1), accepted(0, 1))
	g.finishes(g.hand(accepted(1, 1)), all)
}

// TestTakenOver is a command that is taken over, and brought to its end by promises, okays and accepted.
func TestTakenOver(t *testing.T) {
	each(func(n, node int) {
		g := play(t, n, node)
		g.take(3)
		b := g.own(3)
		for i := range classic(n) - 1 {
			g.hands(promise(i, b, at(30+i, i), many(i)...))
		}
		free := value(at(40, 7), many(n)...)
		g.proposes(g.hand(promise(n-1, b, free.T, free.P...)), b, free, false)
		for i := range classic(n) - 1 {
			g.hands(okay(i, b, free.T))
		}
		g.closes(g.hand(okay(n-1, b, free.T)), b, free)
		for i := range classic(n) - 1 {
			g.hands(accepted(i, b))
		}
		g.finishes(g.hand(accepted(n-1, b)), free)
	})
}
