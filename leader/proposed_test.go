package leader_test

import (
	"testing"

	"lictor/api"
	"lictor/leader"
)

// slowValue is what is proposed in a game that was brought there slowly.
func slowValue() api.Value { return value(at(60, 3), first().P...) }

// proposing is a game that proposes: at ballot 1, or with one of its own, exactly or not.
func proposing(t *testing.T, n, node int, how string) *game {
	t.Helper()
	g := play(t, n, node)
	if how == "slowly" {
		g.start()
		for i := range classic(n) - 1 {
			g.hands(refuse(i, 0, first().T, at(60, 3)))
		}
		g.proposes(g.hand(refuse(n-1, 0, first().T, at(50, 1))), 1, slowValue(), false)
		return g
	}
	g.take(3)
	for i := range classic(n) - 1 {
		g.hands(known(i, g.bal, how))
	}
	last := g.hand(known(n-1, g.bal, how))
	if how == "exactly" {
		g.proposes(last, g.bal, fastest(), true)
	} else {
		g.proposes(last, g.bal, value(at(70, 8), place(16, 5)), false)
	}
	return g
}

// known is a promise, of one that voted for the fastest value, if that is how it shall be; what comes ahead is of it alone.
func known(from, bal int, how string) api.Msg {
	if how == "exactly" {
		return voted(promise(from, bal, at(70, 8), place(81+16*from, 1)), fastest())
	}
	return promise(from, bal, at(70, 8), place(16, 5))
}

// TestProposed is P16.1 (L1): proposing, of each cluster, all that can be said in all orders: just a classic quorum of okays
// closes, with all that was added; one that refuses an exact value leaves what is free; just more refusals than the others of
// n than a classic quorum have it propose what is above; of one less it waits.
func TestProposed(t *testing.T) {
	for n := leastNodes; n <= mostNodes; n++ {
		for _, row := range rows(n, "or") {
			for i, how := range []string{"slowly", "freely", "exactly"} {
				proposed(t, n, (len(row)+i)%n, row, how, len(row)%2 == 0)
			}
		}
	}
}

func proposed(t *testing.T, n, node int, row, how string, down bool) {
	t.Helper()
	g := proposing(t, n, node, how)
	v, b := g.v, g.bal
	for i := range len(row) {
		m := saying(row[i], who(n, i, down), b, v.T)
		if m.Sort == api.Okay && i%2 == 0 {
			m = flagged(m) // which says nothing here
		}
		got := g.hand(m)
		ahead := row[:i+1]
		okays, refusals := said(n, ahead, "o", down, b, v.T), said(n, ahead, "r", down, b, v.T)
		switch {
		case len(okays) == classic(n):
			g.closes(got, b, all(t, v.T, append(vs(okays), v)...))
		case how == "exactly" && len(refusals) > 0:
			g.proposes(got, b, all(t, max(at(70, 8), greatest(refusals)), append(vs(refusals), promised(n)...)...), false)
		case len(refusals) > n-classic(n):
			g.proposes(got, b, all(t, greatest(refusals), append(vs(refusals), append(vs(okays), v)...)...), false)
		default:
			g.waits(got)
			continue
		}
		return
	}
}

// promised is all that comes ahead in the promises with which an exact value was proposed.
func promised(n int) []api.Value {
	var l []api.Value
	for i := range classic(n) - 1 {
		l = append(l, known(i, 0, "exactly").V)
	}
	return append(l, known(n-1, 0, "exactly").V)
}

// TestEnoughProposed is P16.1 (L1): how many it takes, written out.
func TestEnoughProposed(t *testing.T) {
	for _, x := range []struct {
		n                      int
		closes, refused, waits string
	}{
		{3, "oo", "rr", "or"}, {4, "ooo", "rr", "oor"}, {5, "ooo", "rrr", "oorr"}, {6, "oooo", "rrr", "ooorr"}, {7, "oooo", "rrrr", "ooorrr"},
		{8, "ooooo", "rrrr", "oooorrr"}, {9, "ooooo", "rrrrr", "oooorrrr"}, {5, "rrooo", "orrr", "ro"}, {9, "orrrroooo", "oooorrrrr", "rrrr"}, {4, "rooo", "oorr", "r"},
	} {
		for _, row := range []string{x.closes, x.refused, x.waits} {
			g := proposing(t, x.n, 2, "freely")
			v, b := g.v, g.bal
			var got []api.Msg
			for i := range len(row) {
				g.waits(got)
				got = g.hand(saying(row[i], i, b, v.T))
			}
			okays, refusals := said(x.n, row, "o", false, b, v.T), said(x.n, row, "r", false, b, v.T)
			switch row {
			case x.closes:
				g.closes(got, b, all(t, v.T, append(vs(okays), v)...))
			case x.refused:
				g.proposes(got, b, all(t, greatest(refusals), append(vs(refusals), append(vs(okays), v)...)...), false)
			default:
				g.waits(got)
			}
		}
	}
}

// TestProposedAgain is P16.1 (L1): what is proposed instead has neither okays nor refusals: all may say something again, and
// what they said of the one ahead of it doesn't count; the ballot stays, however often that is.
func TestProposedAgain(t *testing.T) {
	each(func(n, node int) {
		for _, how := range []string{"slowly", "freely", "exactly"} {
			g := proposing(t, n, node, how)
			for round := range 3 {
				v, b := g.v, g.bal
				last := refuse(n-1, b, v.T, at(80+round, 2), place(18, 5))
				if how == "exactly" && round == 0 {
					g.proposes(g.hand(last), b, all(t, at(80, 2), append(promised(n), value(0, place(18, 5)))...), false)
					continue
				}
				for i := range n - classic(n) {
					g.hands(refuse(i, b, v.T, at(80+round, 1)))
				}
				g.proposes(g.hand(last), b, all(t, at(80+round, 2), v, value(0, place(18, 5))), false)
				g.hands(okay(0, b, v.T), refuse(1, b, v.T, at(99, 1)), okay(2, b, v.T))
			}
			v, b := g.v, g.bal
			for i := range classic(n) - 1 {
				g.hands(okay(i, b, v.T))
			}
			g.closes(g.hand(okay(n-1, b, v.T)), b, v)
		}
	})
}

// TestExactRefused is P16.1 (L1): what is proposed instead of an exact value has the greatest timestamp that promises and
// refusals suggest, and what comes ahead by them; neither the value's P, nor what okays added.
func TestExactRefused(t *testing.T) {
	for _, x := range []struct {
		s, want int
		p       []api.Cmd
	}{{at(70, 7), at(70, 8), nil}, {at(71, 0), at(71, 0), []api.Cmd{place(18, 5)}}, {lastStamp, lastStamp, many(3)}, {16, at(70, 8), []api.Cmd{place(17, 6)}}} {
		g := proposing(t, 5, 3, "exactly")
		b := g.bal
		g.hands(okay(0, b, fastest().T, place(22, 9)), flagged(okay(4, b, fastest().T)))
		g.proposes(g.hand(refuse(2, b, fastest().T, x.s, x.p...)), b, all(t, x.want, append(promised(5), value(0, x.p...))...), false)
	}
	// A promise that came late is one of them; so is one of what was proposed exactly alone.
	g := proposing(t, 5, 3, "exactly")
	b := g.bal
	g.hands(voted(promise(2, b, at(90, 0), place(19, 5)), fastest()))
	want := all(t, at(90, 0), append(promised(5), value(0, place(19, 5)), value(0, place(20, 5)))...)
	g.proposes(g.hand(refuse(2, b, fastest().T, at(80, 0), place(20, 5))), b, want, false)
	g.hands(promise(3, b, at(95, 0)), refuse(0, b, want.T, at(99, 0)), refuse(3, b, want.T, at(98, 0)))
	g.proposes(g.hand(refuse(1, b, want.T, at(97, 0))), b, value(at(99, 0), want.P...), false)
}

// TestClosesWhole is P16.1 (L1): closing, the value has its own timestamp and P, and what okays added; what refusals have is
// left out.
func TestClosesWhole(t *testing.T) {
	for _, how := range []string{"slowly", "freely", "exactly"} {
		g := proposing(t, 6, 5, how)
		v, b := g.v, g.bal
		if how != "exactly" {
			g.hands(refuse(0, b, v.T, lastStamp, place(17, 9)))
		}
		g.hands(okay(1, b, v.T, place(18, 5)), okay(5, b, v.T), okay(3, b, v.T, place(18, 5), place(64, 5)))
		g.closes(g.hand(okay(2, b, v.T, place(20, 5))), b, all(t, v.T, v, value(0, place(18, 5), place(20, 5), place(64, 5))))
		g.hands(okay(4, b, v.T, place(21, 5)), refuse(4, b, v.T, lastStamp), promise(4, b, lastStamp))
		if p, _, _ := g.l.At(led().ID); p != leader.Closing {
			t.Errorf("at %d", p)
		}
	}
}
