package leader_test

import (
	"fmt"
	"math"
	"slices"
	"testing"

	"lictor/api"
	"lictor/leader"
	"lictor/wire"
)

// roomy is a set with room behind its length, in which commands lie that nobody may look at.
func roomy(l []api.Cmd) []api.Cmd {
	all := append(slices.Clone(l), place(16, 1), api.Cmd{ID: 17, Kind: 9}, api.Cmd{ID: -1})
	return all[:len(l):len(all)]
}

func roomyMsg(m api.Msg) api.Msg {
	m.V.P, m.A.P, m.F.P = roomy(m.V.P), roomy(m.A.P), roomy(m.F.P)
	return m
}

// whole is all that lies in a message's sets, also behind their length.
func whole(m api.Msg) string {
	text := ""
	for _, p := range [][]api.Cmd{m.V.P, m.A.P, m.F.P} {
		text += fmt.Sprint(len(p), p[:cap(p)])
	}
	return text
}

// spoil writes into sets, also behind their length.
func spoil(m api.Msg) {
	for _, p := range [][]api.Cmd{m.V.P, m.A.P, m.F.P} {
		p = p[:cap(p)]
		for i := range p {
			p[i] = api.Cmd{ID: -7}
		}
	}
}

// rich is a row of acts, to the end, in which all that is handed in has a set, for whatever it is.
func rich(n, node int) []act {
	b, q := 2+3*n+node, classic(n)
	acts := []act{start(led(), first())}
	for i := range q {
		acts = append(acts, replies(node, refuse(i, 0, first().T, at(50+i, i), place(81+16*i, 1)), okay(n-1, 0, first().T, place(64, 1)))...)
	}
	for i := range n - q {
		acts = append(acts, replies(node, refuse(i, 1, at(50+q-2, q-2), at(60+i, i), place(82+16*i, 1)))...)
	}
	acts = append(acts, take(led(), b))
	for i := range q {
		m := voted(promise(i, b, at(70+i, i), place(83+16*i, 1)), fastest())
		m.A = first()
		acts = append(acts, replies(node, m)...)
	}
	acts = append(acts, replies(node, okay(0, b, fastest().T, place(65, 1)), refuse(1, b, fastest().T, at(90, 1), place(66, 1)))...)
	for i := range q {
		acts = append(acts, replies(node, okay(i, b, at(90, 1), place(84+16*i, 1)))...)
	}
	for i := range q {
		acts = append(acts, replies(node, accepted(i, b))...)
	}
	acts = append(acts, take(led(), b))
	for i := range q {
		acts = append(acts, replies(node, bound(promise(i, b, 16), 1+i, value(at(30+i, 1), place(85+16*i, 1))))...)
	}
	return append(acts, replies(node, stable(0, fastest()), stable(0, first()))...)
}

// TestOwn is rule 4: what is handed in stays as it was, and behind its length, too; and nothing that is told hangs on it, or
// on what was told ahead: all of it is written into, and what is told and done behind that is the words' own.
func TestOwn(t *testing.T) {
	each(func(n, node int) {
		p := newPair(t, node, n)
		phases := map[leader.Phase]int{}
		for _, x := range rich(n, node) {
			p.spoils(t, x)
			phase, _, _ := p.l.At(led().ID)
			phases[phase]++
		}
		if len(phases) < 5 {
			t.Fatalf("of %d, %d: phases %v", n, node, phases)
		}
		for _, s := range states(n, node) {
			p := newPair(t, node, n)
			for _, x := range s.acts {
				p.spoils(t, x)
			}
			p.tail(t)
		}
	})
}

// spoils has both do something, and then writes into all that the leader was handed, and told.
func (p pair) spoils(t *testing.T, x act) {
	t.Helper()
	ours := roomyMsg(x.m)
	before := whole(ours)
	got := p.doWith(t, x, ours)
	if whole(ours) != before {
		t.Fatalf("%s: wrote into it", short(x))
	}
	for i, m := range got {
		rest := slices.Clone(got[i+1:])
		text := fmt.Sprint(rest)
		spoil(m)
		if fmt.Sprint(rest) != text {
			t.Fatalf("%s: told one set to two", short(x))
		}
	}
	spoil(ours)
	_, _, v := p.l.At(led().ID)
	spoil(api.Msg{V: v})
	p.isAt(t, x, led().ID)
}

// TestTold is rule 4: of each that is told first, At keeps nothing of it, and it nothing of what was told ahead.
func TestTold(t *testing.T) {
	g := play(t, 5, 1)
	got := g.l.Start(led(), first())
	_, _, v := g.l.At(led().ID)
	_, _, w := g.l.At(led().ID)
	spoil(api.Msg{V: v})
	if !sameValue(w, first()) || !sameValue(got[0].V, first()) {
		t.Errorf("wrote into %s, or %s", short(w), short(got))
	}
	spoil(got[0])
	g.isAt(leader.Asking, 0, first())
	if !sameValue(got[1].V, first()) || !sameValue(w, first()) {
		t.Errorf("wrote into %s, or %s", short(w), short(got))
	}
}

// TestNil is rule 8: no leader has nothing to tell, and is nowhere; so is one that New did not make.
func TestNil(t *testing.T) {
	for _, l := range []*leader.Leader{nil, {}} {
		for _, x := range rich(5, 1) {
			if got := l.Start(x.m.Cmd, x.m.V); len(got) > 0 {
				t.Errorf("started %s", short(got))
			}
			for b := range 9 {
				if got := l.Take(led(), b); len(got) > 0 {
					t.Errorf("took over %s", short(got))
				}
			}
			x.m.To = 0
			if got := l.Handle(x.m); len(got) > 0 {
				t.Errorf("told %s", short(got))
			}
			if got := l.Hurry(x.m.Cmd.ID); len(got) > 0 {
				t.Errorf("hurried %s", short(got))
			}
			if p, b, v := l.At(x.m.Cmd.ID); p != leader.Nothing || b != 0 || !sameValue(v, none()) {
				t.Errorf("at %d %d %s", p, b, short(v))
			}
		}
	}
}

// TestAnyNumbers is P1: each call ends, at the numbers at which the machine's own end, in each phase, which stays.
func TestAnyNumbers(t *testing.T) {
	ends := []int{math.MinInt, math.MinInt + 1, math.MinInt32, -1, math.MaxInt32, math.MaxUint32, math.MaxInt - 1, math.MaxInt}
	for n := leastNodes; n <= mostNodes; n++ {
		for _, s := range states(n, 2) {
			p := bring(t, n, 2, s)
			g := &game{t: t, l: p.l, node: 2, n: n}
			g.phase, g.bal, g.v = g.l.At(led().ID)
			for _, a := range ends {
				for _, b := range ends {
					c := api.Cmd{ID: a, Kind: api.Kind(b), Symbol: b, Target: a, Side: api.Side(b), Price: a, Qty: b}
					v := value(b, c, c)
					g.waits(g.l.Start(c, v))
					g.waits(g.l.Start(led(), v))
					g.waits(g.l.Start(c, first()))
					g.waits(g.l.Take(c, b))
					g.waits(g.l.Take(led(), a))
					g.waits(g.l.Hurry(a))
					for sort := api.Sort(-2); sort < 12; sort++ {
						m := api.Msg{Sort: sort, From: a, To: 2, Bal: b, Cmd: c, V: v, Flag: true, S: a, AB: b, A: v, F: v}
						g.waits(g.l.Handle(m))
						m.Cmd = led()
						g.waits(g.l.Handle(m))
						g.waits(g.l.Handle(api.Msg{Sort: sort, From: a, To: b, Bal: a, Cmd: led()}))
					}
					if p, x, v := g.l.At(a); p != leader.Nothing || x != 0 || !sameValue(v, none()) {
						t.Fatalf("at %d %d %s", p, x, short(v))
					}
				}
			}
			p.tail(t)
		}
	}
}

// TestAgain is P2: the same row tells the same, whatever other leaders are told between, and whether sets without commands
// are nil or not.
func TestAgain(t *testing.T) {
	way := func(n, node int, between bool, empty bool) string {
		l := play(t, n, node).l
		other := play(t, mostNodes, 0).l
		told := ""
		for _, x := range rich(n, node) {
			if m := &x.m; empty {
				m.V.P, m.A.P, m.F.P = append([]api.Cmd{}, m.V.P...), append([]api.Cmd{}, m.A.P...), append([]api.Cmd{}, m.F.P...)
			}
			switch x.how {
			case 's':
				told += fmt.Sprint(l.Start(x.m.Cmd, x.m.V))
			case 't':
				told += fmt.Sprint(l.Take(x.m.Cmd, x.m.Bal))
			default:
				told += fmt.Sprint(l.Handle(x.m))
			}
			if between {
				other.Start(led(), value(16))
				other.Handle(api.Msg{Sort: api.Stable, Cmd: led(), V: first()})
				other.Take(led(), 2)
			}
			told += fmt.Sprint(l.At(led().ID))
		}
		return told
	}
	each(func(n, node int) {
		first := way(n, node, false, false)
		if way(n, node, true, false) != first || way(n, node, false, true) != first || way(n, node, false, false) != first {
			t.Errorf("of %d, %d: not the same again", n, node)
		}
	})
}

// TestRight is a test of the tests: the replies above may be.
func TestRight(t *testing.T) {
	some(func(n, node int) {
		for _, s := range states(n, node) {
			l := s.acts
			for _, x := range append(l, rich(n, node)...) {
				if x.how == 0 && !wire.Right(x.m) {
					t.Errorf("%s may not be", short(x))
				}
			}
			for i, m := range sorts(node, s.bal, first().T) {
				if !wire.Right(m) {
					t.Errorf("%d: %s may not be", i, short(m))
				}
			}
		}
	})
}
