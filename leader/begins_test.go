package leader_test

import (
	"math"
	"testing"

	"lictor/api"
	"lictor/leader"
)

// state is how a leader gets somewhere, and where that is.
type state struct {
	name  string
	acts  []act
	phase leader.Phase
	bal   int
}

// fastest is a value that was voted for, in the promises of those that have one.
func fastest() api.Value { return value(at(15, 2), place(17, 5)) }

// states are ways into each phase: just there, and one reply ahead of going on.
func states(n, node int) []state {
	b, c := 2+3*n+node, classic(n)
	var yess, promises, exacts, refusals, okays, late, accepts []api.Msg
	for i := range c {
		yess = append(yess, yes(i))
		promises = append(promises, promise(i, b, at(30+i, i), many(i)...))
		exacts = append(exacts, voted(promises[i], fastest()))
		refusals = append(refusals, refuse(i, 0, first().T, at(30+i, i), many(i)...))
		okays = append(okays, okay(i, 0, first().T, many(i)...))
		late = append(late, okay(i, b, fastest().T))
		accepts = append(accepts, accepted(i, b))
	}
	bounds, nothings := msgs(bound(promises[0], 2, first())), msgs(bound(promises[0], 2, none()))
	bounds, nothings = append(bounds, promises[1:]...), append(nothings, promises[1:]...)
	asks, takes := []act{start(led(), first())}, []act{take(led(), b)}
	with := func(acts []act, l ...[]api.Msg) []act {
		all := append([]act{}, acts...)
		for _, x := range l {
			all = append(all, replies(node, x...)...)
		}
		return all
	}
	slow := msgs(okay(0, 1, at(30+c-1, c-1), place(65, 1)))
	for i := range n - c {
		slow = append(slow, refuse(1+i, 1, at(30+c-1, c-1), at(50+i, i)))
	}
	return []state{
		{"nothing", nil, leader.Nothing, 0},
		{"asking", asks, leader.Asking, 0},
		{"asking, half said", with(asks, yess[:c-1]), leader.Asking, 0},
		{"asking, half refused", with(asks, refusals[:c-1]), leader.Asking, 0},
		{"taking", takes, leader.Taking, b},
		{"taking, half promised", with(takes, promises[:c-1]), leader.Taking, b},
		{"proposing slowly", with(asks, refusals), leader.Proposing, 1},
		{"proposing slowly, nearly refused", with(asks, refusals, slow), leader.Proposing, 1},
		{"proposing freely", with(takes, promises), leader.Proposing, b},
		{"proposing exactly", with(takes, exacts), leader.Proposing, b},
		{"proposing exactly, half said", with(takes, exacts, late[:c-1]), leader.Proposing, b},
		{"closing slowly", with(asks, okays), leader.Closing, 1},
		{"closing", with(takes, bounds), leader.Closing, b},
		{"closing, half accepted", with(takes, bounds, accepts[:c-1]), leader.Closing, b},
		{"closing with nothing", with(takes, nothings), leader.Closing, b},
	}
}

// bring brings a leader, and the words' own one, there.
func bring(t *testing.T, n, node int, s state) pair {
	t.Helper()
	p := newPair(t, node, n)
	for _, x := range s.acts {
		p.do(t, x)
	}
	if phase, bal, _ := p.l.At(led().ID); phase != s.phase || bal != s.bal {
		t.Fatalf("of %d, %d: %s is %d %d", n, node, s.name, phase, bal)
	}
	return p
}

// tail goes on to the end, whatever the phase is: each replica says what it is asked for.
func (p pair) tail(t *testing.T) {
	t.Helper()
	for range 6 {
		phase, bal, v := p.l.At(led().ID)
		if phase == leader.Nothing {
			return
		}
		for i := range p.w.n {
			var m api.Msg
			switch phase {
			case leader.Asking:
				m = flagged(okay(i, bal, v.T, many(i)...))
			case leader.Taking:
				m = promise(i, bal, at(60+i, i), many(i)...)
			case leader.Proposing:
				m = okay(i, bal, v.T, many(i)...)
			case leader.Closing:
				m = accepted(i, bal)
			}
			if a, has := p.w.tries[led().ID]; has {
				m.Cmd = a.cmd
			}
			for _, x := range replies(p.w.node, m) {
				p.do(t, x)
			}
		}
	}
	t.Fatalf("of %d, %d: it doesn't end", p.w.n, p.w.node)
}

// some asks for each cluster, and by turns for its first replica, one between, and its last one.
func some(f func(n, node int)) {
	for n := leastNodes; n <= mostNodes; n++ {
		f(n, []int{0, n / 2, n - 1}[n%3])
	}
}

// tries does each of some acts in each state, and goes on to the end.
func tries(t *testing.T, l func(n, node int, s state) []act) {
	t.Helper()
	some(func(n, node int) {
		for _, s := range states(n, node) {
			for _, x := range l(n, node, s) {
				p := bring(t, n, node, s)
				p.do(t, x)
				p.tail(t)
			}
		}
	})
}

// wrongCmds are commands that may not be.
func wrongCmds() []api.Cmd {
	return []api.Cmd{
		{}, place(15, 5), place(25, 5), place(49, -1), place(49, 1<<20+1), cancel(49, 0), {ID: 49, Kind: 3}, {ID: 49, Symbol: 4}, {ID: 49, Symbol: -1},
		{ID: 16*257 + 1}, {ID: math.MinInt}, {ID: 49, Side: 2}, {ID: 49, Qty: 1<<20 + 1}, {ID: 49, Target: 17},
	}
}

// wrongValues are values with which nothing may be proposed.
func wrongValues() []api.Value {
	return []api.Value{
		none(), value(-16), value(15), value(25), value(lastStamp + 1), value(math.MaxInt), value(math.MinInt), value(0, place(17, 5)),
		value(16, place(18, 5), place(17, 5)), value(16, place(17, 5), place(17, 5)), value(16, place(25, 5)), value(16, api.Cmd{}), value(16, many(mostPreds+1)...),
	}
}

// TestStart is P16.1 (L1): of each replica of each cluster, the least and the greatest value, and each kind of command: a
// propose to all, without Flag; and what is above what may be proposed, of no attempt.
func TestStart(t *testing.T) {
	each(func(n, node int) {
		for _, v := range []api.Value{first(), value(16), value(lastStamp), value(16, many(mostPreds)...), {T: 16, P: []api.Cmd{}}, value(at(7, 8), led())} {
			g := play(t, n, node)
			g.starts(g.l.Start(led(), v), v)
		}
		for _, c := range []api.Cmd{place(16, 1<<20), cancel(16*256+8, 16), {ID: 33, Kind: api.Amend, Symbol: 3, Target: 17, Qty: 1 << 20}} {
			g := play(t, n, node)
			if got, want := g.l.Start(c, first()), to(n, node, api.Msg{Sort: api.Propose, Cmd: c, V: first()}); !same(got, want) {
				t.Errorf("told %s, not %s", short(got), short(want))
			}
			if p, b, v := g.l.At(c.ID); p != leader.Asking || b != 0 || !sameValue(v, first()) {
				t.Errorf("at %d %d %s", p, b, short(v))
			}
			g.waits(nil)
		}
		g := play(t, n, node)
		for _, c := range wrongCmds() {
			g.waits(g.l.Start(c, first()))
		}
		for _, v := range wrongValues() {
			g.waits(g.l.Start(led(), v))
		}
	})
}

// ballots are those of an attempt's round and about them, the least and the greatest ones, and what is none.
func ballots(n, node int) []int {
	l := []int{math.MinInt, -1, 0, 1, 1<<32 + 2 + node, mostBallot + 1, mostBallot + 1 + n, math.MaxInt}
	for b := 2; b < 2+4*n; b++ {
		l = append(l, b)
	}
	for i := range n {
		l = append(l, mostBallot-i)
	}
	return l
}

// TestTake is P16.1 (L1): with each ballot of its own, from the least to the greatest one, prepare to all; with 0, with 1,
// with another one's, and with what is none, nothing.
func TestTake(t *testing.T) {
	each(func(n, node int) {
		for _, b := range ballots(n, node) {
			g := play(t, n, node)
			if got := g.l.Take(led(), b); 2 <= b && b <= mostBallot && (b-2)%n == node {
				g.takes(got, b)
			} else {
				g.waits(got)
			}
			for _, c := range wrongCmds() {
				g.waits(g.l.Take(c, b))
			}
		}
	})
}

// TestBeginsAnew is P16.1 (L1): Start and Take over an attempt of each phase: what was there is gone, with its replies and its
// ballot, also of the same value and ballot; so it is of another command of that name.
func TestBeginsAnew(t *testing.T) {
	tries(t, func(n, node int, s state) []act {
		return []act{
			start(led(), first()), start(led(), value(first().T)), start(led(), value(lastStamp, many(3)...)), start(cancel(led().ID, 17), first()),
			take(led(), 2+3*n+node), take(led(), 2+node), take(led(), 2+4*n+node), take(cancel(led().ID, 17), 2+3*n+node),
		}
	})
	each(func(n, node int) {
		for _, s := range states(n, node) {
			g := &game{t: t, l: bring(t, n, node, s).l, node: node, n: n}
			g.start()
			for i := range fast(n) - 1 {
				g.hands(yes(i))
			}
			g.finishes(g.hand(yes(n-1)), first())
			g = &game{t: t, l: bring(t, n, node, s).l, node: node, n: n}
			g.take(3)
			for i := range classic(n) - 1 {
				g.hands(promise(i, g.bal, at(9, 1)))
			}
			g.proposes(g.hand(promise(n-1, g.bal, at(9, 1))), g.bal, value(at(9, 1)), false)
		}
	})
}

// TestBeginsNot is P16.1 (L1): what may not be leaves what was there of that command in each phase, with all that was said.
func TestBeginsNot(t *testing.T) {
	tries(t, func(n, node int, s state) []act {
		var l []act
		for _, c := range wrongCmds() {
			l = append(l, start(c, first()), take(c, 2+3*n+node))
		}
		for _, v := range wrongValues() {
			l = append(l, start(led(), v))
		}
		for _, b := range []int{-1, 0, 1, 2 + 3*n + (node+1)%n, 2 + 3*n + (node+n-1)%n, mostBallot + 1, math.MaxInt, math.MinInt} {
			l = append(l, take(led(), b))
		}
		return l
	})
}

// TestOthers is P16.1 (L1): attempts of several commands go on side by side: what becomes of one changes no other one.
func TestOthers(t *testing.T) {
	other := cancel(50, 17)
	some(func(n, node int) {
		for _, s := range states(n, node) {
			p := bring(t, n, node, s)
			p.do(t, start(other, value(at(3, 3))), other.ID)
			for i := range n {
				for _, x := range replies(node, of(flagged(okay(i, 0, at(3, 3))), other), of(promise(i, s.bal, 16), other), of(accepted(i, s.bal), other)) {
					p.do(t, x, other.ID)
				}
			}
			p.do(t, take(other, 2+node), other.ID)
			p.tail(t)
			if phase, bal, _ := p.l.At(other.ID); phase != leader.Taking || bal != 2+node {
				t.Fatalf("of %d, %d: the other one is at %d %d", n, node, phase, bal)
			}
		}
	})
}
