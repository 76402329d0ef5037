package leader_test

import (
	"testing"

	"lictor/api"
	"lictor/leader"
)

// plain is a promise of a replica, with what it suggests alone: the greater the number, the greater the timestamp.
func plain(from, bal int) api.Msg { return promise(from, bal, at(30+from, from), place(81+16*from, 1)) }

// plains are those of the replicas from 0 on.
func plains(q, bal int) []api.Msg {
	var l []api.Msg
	for i := range q {
		l = append(l, plain(i, bal))
	}
	return l
}

// taking is a game that takes over, to which all promises but the last one of a classic quorum were handed in.
func taking(t *testing.T, n, node int, l []api.Msg) *game {
	t.Helper()
	g := play(t, n, node)
	g.take(3)
	g.hands(l[:classic(n)-1]...)
	return g
}

// TestFreePromises is P16.1 (L1): taking over, of each cluster, whichever replicas promise, in any order: one less than a
// classic quorum says nothing, just one leaves what is free, that isn't proposed exactly.
func TestFreePromises(t *testing.T) {
	for n := leastNodes; n <= mostNodes; n++ {
		for set := range 1 << n {
			g := play(t, n, set%n)
			g.take(3)
			var l []api.Msg
			for i := range n {
				if k := (i + set) % n; set>>k&1 == 1 {
					l = append(l, plain(k, g.bal))
				}
			}
			for i, m := range l {
				if i < classic(n)-1 {
					g.hands(m)
					continue
				}
				g.proposes(g.hand(m), g.bal, all(t, greatest(l[:i+1]), vs(l[:i+1])...), false)
				// No others are asked for any more.
				g.hands(l[i+1:]...)
				break
			}
		}
	}
}

// TestBoundPromises is P16.1 (L1): taking over, one of them accepted something, in each place: it closes with that, also if
// others are freed, or voted for something; of several that with the greatest ballot, of the same one that which came first.
func TestBoundPromises(t *testing.T) {
	a, f := value(at(12, 4), place(17, 5), place(18, 1)), value(at(11, 1))
	each(func(n, node int) {
		b, q := 2+3*n+node, classic(n)
		for i := range q {
			for _, ab := range []int{1, b - 1, b, mostBallot} {
				l := plains(q, b)
				for k := range l {
					l[k] = voted(l[k], f)
				}
				l[(i+1)%q].Flag = true
				l[i] = bound(l[i], ab, a)
				g := taking(t, n, node, l)
				g.closes(g.hand(l[q-1]), b, a)
			}
			l := plains(q, b)
			for k := range l {
				far := (k - i + q) % q
				l[k] = bound(l[k], 9-far, value(at(50+k%3, k)))
			}
			g := taking(t, n, node, l)
			g.closes(g.hand(l[q-1]), b, l[i].A)
		}
		l := plains(q, b)
		l[q-1] = bound(l[q-1], 7, value(at(20, 1)))
		l[0] = bound(l[0], 7, value(at(19, 1), place(17, 5)))
		g := taking(t, n, node, l)
		g.closes(g.hand(l[q-1]), b, l[0].A)
		l[0], l[q-1] = l[q-1], l[0]
		g = taking(t, n, node, l)
		g.closes(g.hand(l[q-1]), b, l[0].A)
	})
}

// TestBoundToNothing is P16.1 (L1): a promise may have a ballot above 0, and nothing that was accepted: it closes with that,
// which may not be told; nor may it be, when it is accepted.
func TestBoundToNothing(t *testing.T) {
	each(func(n, node int) {
		b, q := 2+3*n+node, classic(n)
		l := plains(q, b)
		l[0] = bound(l[0], 1, none())
		g := taking(t, n, node, l)
		if got := g.hand(l[q-1]); len(got) > 0 {
			t.Fatalf("told %s", short(got))
		}
		g.isAt(leader.Closing, b, none())
		for i := range q - 1 {
			g.hands(accepted(i, b))
		}
		g.gone(g.hand(accepted(n-1, b)))
	})
}

// need is how many of a classic quorum must have what a fast one has.
func need(n int) int { return []int{2, 2, 2, 3, 3, 3, 3}[n-leastNodes] }

// exacts are promises, of which so many voted for the fastest value: the last ones.
func exacts(q, many, bal int) []api.Msg {
	l := plains(q, bal)
	for i := range many {
		l[q-1-i] = voted(l[q-1-i], fastest())
	}
	return l
}

// TestExactPromises is P16.1 (L1): taking over, as many as are needed have one fast value: that is proposed, exactly, with
// Flag; of one less, and if one is freed, what is free is proposed, without.
func TestExactPromises(t *testing.T) {
	each(func(n, node int) {
		b, q := 2+3*n+node, classic(n)
		for many := range q + 1 {
			l := exacts(q, many, b)
			free := all(t, at(30+q-1, q-1), vs(l)...)
			g := taking(t, n, node, l)
			if many >= need(n) {
				g.proposes(g.hand(l[q-1]), b, fastest(), true)
			} else {
				g.proposes(g.hand(l[q-1]), b, free, false)
			}
			l[many%q].Flag = true
			g = taking(t, n, node, l)
			g.proposes(g.hand(l[q-1]), b, free, false)
		}
	})
}

// exactly is a game that proposes the fastest value, as just so many promises as are needed have it, and one okay, and what
// was promised.
func exactly(t *testing.T, n, node int) (*game, []api.Msg) {
	t.Helper()
	b, q := 2+3*n+node, classic(n)
	l := exacts(q, need(n), b)
	g := taking(t, n, node, l)
	g.proposes(g.hand(l[q-1]), b, fastest(), true)
	g.hands(okay(0, b, fastest().T, place(20, 1)))
	return g, l
}

// TestLatePromises is P16.1 (L1): proposing an exact value, one more promise that leaves each of the kinds: the same value
// again changes nothing, and okays stay; another one closes, or proposes what is free, without the okays that were there.
func TestLatePromises(t *testing.T) {
	a := value(at(12, 4), place(17, 5))
	each(func(n, node int) {
		q := classic(n)
		g, _ := exactly(t, n, node)
		b := g.bal
		g.hands(voted(plain(q, b), fastest()))
		for i := range q - 2 {
			g.hands(okay(1+i, b, fastest().T))
		}
		g.closes(g.hand(okay(q, b, fastest().T)), b, all(t, fastest().T, fastest(), value(0, place(20, 1))))

		g, _ = exactly(t, n, node)
		g.closes(g.hand(bound(voted(plain(q, b), fastest()), 1, a)), b, a)
		g.hands(okay(1, b, fastest().T), okay(1, b, a.T), plain(n-1, b))

		for _, late := range msgs(plain(q, b), flagged(voted(plain(q, b), fastest())), voted(plain(q, b), a)) {
			g, l := exactly(t, n, node)
			free := all(t, late.S, vs(append(l, late))...)
			g.proposes(g.hand(late), b, free, false)
			g.hands(plain(n-1, b), bound(plain(n-2, b), 1, a))
			for i := range q - 1 {
				g.hands(okay(i, b, free.T))
			}
			g.closes(g.hand(okay(n-1, b, free.T)), b, free)
		}

		g, _ = exactly(t, n, node)
		g.finishes(g.hand(stable(0, a)), a)
	})
}

// TestAllPromise is P16.1 (L1): proposing an exact value that all voted for, promises of all change nothing.
func TestAllPromise(t *testing.T) {
	each(func(n, node int) {
		b, q := 2+3*n+node, classic(n)
		l := exacts(n, n, b)
		g := taking(t, n, node, l)
		g.proposes(g.hand(l[q-1]), b, fastest(), true)
		g.hands(l...)
		g.hands(l...)
		for i := range q - 1 {
			g.hands(flagged(okay(i, b, fastest().T)))
		}
		g.closes(g.hand(okay(n-1, b, fastest().T)), b, fastest())
	})
}

// full is a value with as many commands as can be.
func full() api.Value { return value(at(20, 1), many(mostPreds)...) }

// fullAsking is a game of five that asks with that, to which was said that.
func fullAsking(t *testing.T, l ...api.Msg) *game {
	t.Helper()
	g := play(t, 5, 1)
	g.starts(g.l.Start(led(), full()), full())
	g.hands(l...)
	return g
}

// fullTaken is a game of five that took over, and was promised that as much as can be comes ahead; two of the promises may
// have a fast value. It proposes, and was said that.
func fullTaken(t *testing.T, f api.Value, l ...api.Msg) *game {
	t.Helper()
	g := play(t, 5, 1)
	g.take(0)
	g.hands(promise(0, 3, 16, full().P...), voted(promise(1, 3, 16), f))
	if got := g.hand(voted(promise(2, 3, 32), f)); f.T > 0 {
		g.proposes(got, 3, f, true)
	} else {
		g.proposes(got, 3, value(32, full().P...), false)
	}
	g.hands(l...)
	return g
}

// unions are games in each place where a union is asked for, with what has it be, that has some commands or the other ones.
func unions(t *testing.T, p ...api.Cmd) (games []*game, last []api.Msg) {
	t.Helper()
	add := func(g *game, m api.Msg) { games, last = append(games, g), append(last, m) }
	s := full().T
	// Asking: it closes, or proposes slowly.
	add(fullAsking(t, okay(0, 0, s), flagged(okay(2, 0, s))), okay(1, 0, s, p...))
	add(fullAsking(t, okay(0, 0, s, p...), flagged(okay(2, 0, s))), refuse(1, 0, s, 33))
	add(fullAsking(t, okay(0, 0, s), flagged(okay(2, 0, s))), refuse(1, 0, s, 33, p...))
	add(fullAsking(t, refuse(0, 0, s, 33, p...), flagged(okay(2, 0, s))), refuse(1, 0, s, 33))
	// Proposing: it closes, or is refused, also exactly.
	add(fullTaken(t, none(), okay(0, 3, 32), okay(1, 3, 32)), okay(2, 3, 32, p...))
	add(fullTaken(t, none(), okay(0, 3, 32, p...), okay(1, 3, 32)), okay(2, 3, 32))
	add(fullTaken(t, none(), okay(0, 3, 32, p...), refuse(1, 3, 32, 33), refuse(2, 3, 32, 33)), refuse(3, 3, 32, 33))
	add(fullTaken(t, none(), refuse(1, 3, 32, 33, p...), refuse(2, 3, 32, 33)), refuse(3, 3, 32, 33))
	add(fullTaken(t, fastest()), refuse(2, 3, fastest().T, 33, p...))
	// Promises: taking over, and late.
	g := play(t, 5, 1)
	g.take(0)
	g.hands(promise(0, 3, 16, full().P...), promise(1, 3, 16))
	add(g, promise(2, 3, 16, p...))
	add(fullTaken(t, fastest()), promise(3, 3, 16, p...))
	return games, last
}

// TestNoUnion is P16.1: where a union has an error, as two commands have one name, or they are too many, the attempt is gone,
// in each place where there is one; just 1024 are not too many.
func TestNoUnion(t *testing.T) {
	for _, wrong := range [][]api.Cmd{{place(17, 9)}, {many(mostPreds + 1)[mostPreds]}, {cancel(16, 17), many(mostPreds + 1)[mostPreds]}} {
		games, last := unions(t, wrong...)
		for i, g := range games {
			g.gone(g.hand(last[i]))
			g.hands(last[i], stable(0, full()))
		}
	}
	for _, right := range [][]api.Cmd{nil, full().P, {place(17, 5)}} {
		games, last := unions(t, right...)
		for i, g := range games {
			if got := g.hand(last[i]); len(got) != 5 || !sameValue(value(0, got[0].V.P...), value(0, full().P...)) {
				t.Fatalf("%d: told %s", i, short(got))
			}
		}
	}
}

// TestUnionNotAsked is P16.1: where no union is asked for, it has no error: a fast quorum of okays, what was accepted, and
// what is exact, whatever comes ahead.
func TestUnionNotAsked(t *testing.T) {
	odd := place(17, 9)
	g := play(t, 3, 0)
	g.start()
	g.hands(flagged(okay(0, 0, first().T, odd)), flagged(okay(1, 0, first().T, place(17, 8))))
	g.finishes(g.hand(flagged(okay(2, 0, first().T, many(mostPreds)...))), first())
	for _, kind := range []string{"bound", "exact"} {
		g = play(t, 3, 0)
		g.take(1)
		l := msgs(promise(0, 5, 16, odd), promise(1, 5, 16, place(17, 8)))
		if kind == "bound" {
			g.hands(l[0])
			g.closes(g.hand(bound(l[1], 1, first())), 5, first())
			continue
		}
		g.hands(voted(l[0], fastest()))
		g.proposes(g.hand(voted(l[1], fastest())), 5, fastest(), true)
		// A refusal has nothing in common with what okays added.
		g.hands(okay(0, 5, fastest().T, place(17, 7)))
	}
	// What refusals have isn't in the union, closing; what promises have isn't, if what is refused isn't exact.
	g = proposing(t, 3, 0, "freely")
	g.hands(refuse(0, g.bal, g.v.T, 16, place(16, 7)), okay(1, g.bal, g.v.T))
	g.closes(g.hand(okay(2, g.bal, g.v.T)), g.bal, g.v)
}
