package leader_test

import (
	"math"
	"testing"

	"lictor/api"
	"lictor/leader"
	"lictor/wire"
)

// sorts are a message of each sort, from a replica, with a ballot, of the timestamp that is asked for; some of which twice,
// as they say another thing.
func sorts(from, bal, t int) []api.Msg {
	head := api.Msg{From: from, Bal: bal, Cmd: led()}
	asks, closes, prepares := head, head, head
	asks.Sort, asks.V = api.Propose, value(t)
	closes.Sort, closes.V = api.Accept, value(t)
	prepares.Sort = api.Prepare
	settled := stable(from, value(at(44, 4), place(17, 5)))
	settled.Bal = bal
	return msgs(
		okay(from, bal, t), flagged(okay(from, bal, t, place(64, 1))), refuse(from, bal, t, at(50, 2), place(65, 1)),
		promise(from, bal, at(51, 3), place(66, 1)), voted(promise(from, bal, at(52, 3)), fastest()), flagged(promise(from, bal, at(53, 3))), bound(promise(from, bal, 16), 3, first()),
		accepted(from, bal), settled, reject(from, bal, bal+1), reject(from, bal, 0), asks, closes, prepares, flagged(asks),
	)
}

// asksFor is the timestamp for which a state asks, or any.
func asksFor(t *testing.T, n, node int, s state) int {
	t.Helper()
	if _, _, v := bring(t, n, node, s).l.At(led().ID); v.T > 0 {
		return v.T
	}
	return first().T
}

// TestReplies is P16.1 (L1): each sort of reply in each phase, from each replica, and from those that are none, with the
// attempt's ballot, one less, and one more, and of its timestamp, one less, and one more; what comes of it then.
func TestReplies(t *testing.T) {
	tries(t, func(n, node int, s state) []act {
		ts := asksFor(t, n, node, s)
		var l []act
		for from := range n + 2 {
			l = append(l, replies(node, sorts(from, s.bal, ts)...)...)
		}
		for _, from := range []int{0, n - 1} {
			for _, b := range []int{s.bal - 1, s.bal + 1, 0, 1, mostBallot} {
				l = append(l, replies(node, sorts(from, b, ts)...)...)
			}
			for _, other := range []int{ts - 1, ts + 1, 16, lastStamp} {
				l = append(l, replies(node, sorts(from, s.bal, other)[:3]...)...)
			}
		}
		return l
	})
}

// TestNoReplies is P16.1 (L1): each sort of reply in each phase, to another number, of another command, of that name or
// another one, and one that may not be: nothing is told, and all stays.
func TestNoReplies(t *testing.T) {
	tries(t, func(n, node int, s state) []act {
		ts := asksFor(t, n, node, s)
		var l []act
		for _, m := range sorts(n-1, s.bal, ts) {
			for _, to := range []int{node + 1, (node + n - 1) % n, n, -1, 9, math.MaxInt} {
				l = append(l, replies(to, m)...)
			}
			for _, c := range []api.Cmd{place(49, 6), cancel(49, 17), place(48, 5), place(50, 5), {ID: 49, Symbol: 1, Side: api.Sell, Price: 5, Qty: 2}, {}} {
				l = append(l, replies(node, of(m, c))...)
			}
			wrong := msgs(m, m, m, m, m)
			wrong[0].From, wrong[1].Bal, wrong[2].Bal, wrong[3].V.P, wrong[4].S = -1, -1, mostBallot+1, []api.Cmd{{}}, 15
			l = append(l, replies(node, wrong...)...)
		}
		for _, x := range l {
			if x.m.To == node && x.m.Cmd == led() && wire.Right(x.m) {
				t.Fatalf("%s is a reply", short(x))
			}
		}
		return l
	})
}

// TestTwice is P16.1 (L1): each two replies of one replica in each phase, also an okay and a refuse in both orders; the second
// one of a sort says nothing, whatever it has.
func TestTwice(t *testing.T) {
	for n := leastNodes; n <= mostNodes; n += 2 {
		for _, s := range states(n, 1) {
			l := sorts(n-1, s.bal, asksFor(t, n, 1, s))
			for _, x := range replies(1, l...) {
				for _, y := range replies(1, l...) {
					p := bring(t, n, 1, s)
					p.do(t, x)
					p.do(t, y)
					p.tail(t)
				}
			}
		}
	}
}

// TestOnce is P16.1 (L1): however often one replica says something, it counts once.
func TestOnce(t *testing.T) {
	each(func(n, node int) {
		g := play(t, n, node)
		g.start()
		for range 20 {
			g.hands(yes(n-1), refuse(n-1, 0, first().T, lastStamp), okay(n-1, 0, first().T))
		}
		g.waits(g.l.Hurry(led().ID))
		for i := range fast(n) - 2 {
			g.hands(yes(i))
		}
		g.finishes(g.hand(yes(n-2)), first())

		g.start()
		for range 20 {
			g.hands(refuse(n-1, 0, first().T, at(70, 1)), yes(n-1), refuse(n-1, 0, first().T, lastStamp))
		}
		for i := range classic(n) - 2 {
			g.hands(refuse(i, 0, first().T, at(60, 1)))
		}
		g.proposes(g.hand(refuse(n-2, 0, first().T, at(65, 1))), 1, value(at(70, 1), first().P...), false)
		v := g.v
		for range 20 {
			g.hands(okay(n-1, 1, v.T), refuse(n-1, 1, v.T, lastStamp))
		}
		for i := range classic(n) - 2 {
			g.hands(okay(i, 1, v.T))
		}
		g.closes(g.hand(okay(n-2, 1, v.T)), 1, v)
		for range 20 {
			g.hands(accepted(n-1, 1))
		}
		for i := range classic(n) - 2 {
			g.hands(accepted(i, 1))
		}
		g.finishes(g.hand(accepted(n-2, 1)), v)

		g.take(2)
		for range 20 {
			g.hands(promise(n-1, g.bal, at(31, 0)), promise(n-1, g.bal, lastStamp, many(9)...))
		}
		for i := range classic(n) - 2 {
			g.hands(promise(i, g.bal, 16))
		}
		g.proposes(g.hand(promise(n-2, g.bal, 16)), g.bal, value(at(31, 0)), false)
	})
}

// TestAccepted is P16.1 (L1): closing, of each cluster, whichever replicas accept: one less than a classic quorum says nothing,
// just one finishes.
func TestAccepted(t *testing.T) {
	for n := leastNodes; n <= mostNodes; n++ {
		for set := range 1 << n {
			g := play(t, n, set%n)
			g.take(3)
			l := plains(classic(n), g.bal)
			l[0] = bound(l[0], 1, first())
			g.hands(l[1:]...)
			g.closes(g.hand(l[0]), g.bal, first())
			said := 0
			for i := range n {
				k := (i + set) % n
				if set>>k&1 == 0 {
					continue
				}
				if said++; said < classic(n) {
					g.hands(accepted(k, g.bal))
					continue
				}
				g.finishes(g.hand(accepted(k, g.bal)), first())
				break
			}
		}
	}
}

// TestStable is P16.1 (L1): in each phase it finishes with the stable's value, its own one or another one, whatever the ballot
// and whoever told it; without an attempt, and behind its end, nothing is done.
func TestStable(t *testing.T) {
	each(func(n, node int) {
		for _, s := range states(n, node) {
			for _, v := range []api.Value{first(), fastest(), value(16), value(lastStamp, many(mostPreds)...)} {
				for _, b := range []int{0, 1, s.bal, s.bal + 1, mostBallot} {
					g := &game{t: t, l: bring(t, n, node, s).l, node: node, n: n}
					m := stable((b+node)%n, v)
					m.Bal = b
					if got := g.hand(m); s.phase == leader.Nothing {
						g.gone(got)
					} else {
						g.finishes(got, v)
					}
					g.hands(m, stable(0, first()), accepted(0, b), yes(0), promise(0, b, 16))
				}
			}
		}
	})
}

// TestReject is P16.1 (L1): in each phase the attempt is gone, if it has its ballot, whatever was promised instead, and whoever
// tells it; with another one it stays.
func TestReject(t *testing.T) {
	each(func(n, node int) {
		for _, s := range states(n, node) {
			for _, ab := range []int{0, 1, s.bal, s.bal + 1, mostBallot} {
				g := &game{t: t, l: bring(t, n, node, s).l, node: node, n: n}
				g.phase, g.bal, g.v = g.l.At(led().ID)
				for _, b := range []int{s.bal + 1, s.bal + n, mostBallot, max(s.bal-1, 0)} {
					if b != s.bal {
						g.hands(reject(ab%n, b, ab))
					}
				}
				g.gone(g.hand(reject(ab%n, s.bal, ab)))
				g.hands(reject(ab%n, s.bal, ab), stable(0, first()), yes(0))
				g.start()
			}
		}
	})
}

// TestBeyond is P16.1 (L1): a replica that is none of the n says nothing, in each phase, also where it would be the last one.
func TestBeyond(t *testing.T) {
	for n := leastNodes; n < mostNodes; n++ {
		for _, s := range states(n, 1) {
			g := &game{t: t, l: bring(t, n, 1, s).l, node: 1, n: n}
			g.phase, g.bal, g.v = g.l.At(led().ID)
			for from := n; from < mostNodes; from++ {
				g.hands(sorts(from, s.bal, g.v.T)...)
				g.hands(sorts(from, s.bal, first().T)...)
			}
		}
	}
}
