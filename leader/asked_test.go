package leader_test

import (
	"testing"

	"lictor/api"
	"lictor/leader"
)

// saying is what a replica says: 'y' an okay with Flag, 'o' one without, 'r' a refuse; what it adds is its own.
func saying(what byte, from, bal, t int) api.Msg {
	c := place(80+16*from, 1)
	switch what {
	case 'y':
		return flagged(okay(from, bal, t, c))
	case 'o':
		return okay(from, bal, t, c)
	}
	return refuse(from, bal, t, at(40+(3*from)%7, from), c)
}

// rows are all rows of letters, of one up to n of them.
func rows(n int, letters string) []string {
	var l []string
	last := []string{""}
	for range n {
		var next []string
		for _, s := range last {
			for _, x := range letters {
				next = append(next, s+string(x))
			}
		}
		l, last = append(l, next...), next
	}
	return l
}

// count is how many letters of a row are one of some.
func count(row, letters string) int {
	many := 0
	for _, x := range row {
		for _, y := range letters {
			if x == y {
				many++
			}
		}
	}
	return many
}

// who says something at a place of a row: they speak in their order, or in the other one.
func who(n, i int, down bool) int {
	if down {
		return n - 1 - i
	}
	return i
}

// said are what is said in a row, of some letters.
func said(n int, row, letters string, down bool, bal, t int) []api.Msg {
	var l []api.Msg
	for i := range len(row) {
		if count(row[i:i+1], letters) > 0 {
			l = append(l, saying(row[i], who(n, i, down), bal, t))
		}
	}
	return l
}

// all is a value with a timestamp, and all commands of some.
func all(t *testing.T, s int, l ...api.Value) api.Value {
	t.Helper()
	p, ok := union(l...)
	if !ok {
		t.Fatal("no union")
	}
	return value(s, p...)
}

// slow tells whether it went on slowly, behind such a row.
func (g *game) slow(got []api.Msg, row string, down bool) {
	g.t.Helper()
	okays, refusals := said(g.n, row, "yo", down, 0, first().T), said(g.n, row, "r", down, 0, first().T)
	if len(okays) >= classic(g.n) {
		g.closes(got, 1, all(g.t, first().T, append(vs(okays), first())...))
		return
	}
	g.proposes(got, 1, all(g.t, greatest(refusals), append(vs(okays), append(vs(refusals), first())...)...), false)
}

// TestAsked is P16.1 (L1): asking, of each cluster, all that can be said in all orders: just a fast quorum of okays with Flag
// finishes; just more than the others of n that say anything else, with a classic quorum, have it go on slowly, and neither
// is so with one less; behind what has it wait, Hurry does, if just a classic quorum has said something.
func TestAsked(t *testing.T) {
	for n := leastNodes; n <= mostNodes; n++ {
		for _, row := range rows(n, "yor") {
			for _, down := range []bool{false, true} {
				asked(t, n, row, down)
			}
		}
	}
}

func asked(t *testing.T, n int, row string, down bool) {
	t.Helper()
	g := play(t, n, len(row)-1)
	g.start()
	for i := range len(row) {
		got := g.hand(saying(row[i], who(n, i, down), 0, first().T))
		ahead := row[:i+1]
		quick, other := count(ahead, "y"), count(ahead, "or")
		switch {
		case quick >= fast(n):
			g.finishes(got, first())
		case other > n-fast(n) && quick+other >= classic(n):
			g.slow(got, ahead, down)
		default:
			g.waits(got)
			continue
		}
		return
	}
	if got := g.l.Hurry(led().ID); len(row) >= classic(n) {
		g.slow(got, row, down)
	} else {
		g.waits(got)
	}
}

// TestEnough is P16.1 (L1): how many it takes, written out.
func TestEnough(t *testing.T) {
	for _, x := range []struct {
		n                  int
		quick, slow, waits string
	}{
		{3, "yyy", "oo", "yy"}, {3, "yyy", "yr", "r"}, {4, "yyy", "yoo", "yyo"}, {4, "oyyy", "rro", "rr"}, {5, "yyyy", "yoo", "yyyo"}, {5, "ryyyy", "oyyo", "ry"},
		{6, "yyyyy", "yyor", "yyyyo"}, {7, "ryyyyyy", "ryyr", "yyyyyo"}, {8, "ooyyyyyy", "yyooo", "yyyyyoo"}, {9, "oryyyyyyy", "yyooo", "yyyyyyoo"}, {9, "yyyyyyy", "rrooy", "rroo"},
	} {
		for _, row := range []string{x.quick, x.slow, x.waits} {
			g := play(t, x.n, 1)
			g.start()
			var got []api.Msg
			for i := range len(row) {
				g.waits(got)
				got = g.hand(saying(row[i], i, 0, first().T))
			}
			switch row {
			case x.quick:
				g.finishes(got, first())
			case x.slow:
				g.slow(got, row, false)
			default:
				g.waits(got)
			}
		}
	}
}

// TestFewOthers is P16.1 (L1): of nine more than two that say anything else are not enough, if no classic quorum has said
// something.
func TestFewOthers(t *testing.T) {
	for _, row := range []string{"oooo", "rrrr", "yrrr", "oroy", "yooo"} {
		g := play(t, 9, 4)
		g.start()
		g.hands(said(9, row, "yor", true, 0, first().T)...)
		g.waits(g.l.Hurry(led().ID))
		g.slow(g.hand(saying('y', 0, 0, first().T)), row+"........y"[len(row):], true)
	}
}

// TestFlagAlone is P16.1 (L1): an okay with Flag counts as such, whatever it adds; the value is told as it was.
func TestFlagAlone(t *testing.T) {
	for n := leastNodes; n <= mostNodes; n++ {
		for _, p := range [][]api.Cmd{{place(17, 5)}, {place(17, 6)}, many(mostPreds), {led()}} {
			g := play(t, n, 2)
			g.start()
			for i := range fast(n) - 1 {
				g.hands(flagged(okay(i, 0, first().T, p...)))
			}
			g.finishes(g.hand(flagged(okay(n-1, 0, first().T, p...))), first())
		}
	}
}

// TestSlowFresh is P16.1 (L1): what it goes on with has the greatest timestamp of the refusals, be it less than the value's,
// and all that was added; only refusals are above.
func TestSlowFresh(t *testing.T) {
	for _, x := range []struct{ a, b, want int }{{at(30, 4), at(31, 0), at(31, 0)}, {at(31, 0), at(30, 4), at(31, 0)}, {16, 17, 17}, {at(30, 4), at(30, 3), at(30, 4)}, {lastStamp, 16, lastStamp}} {
		g := play(t, 5, 4)
		g.start()
		g.hands(refuse(0, 0, first().T, x.a, place(18, 5)), okay(2, 0, first().T, place(50, 5)))
		v := value(x.want, place(16, 5), place(17, 5), place(18, 5), cancel(34, 17), place(50, 5))
		g.proposes(g.hand(refuse(4, 0, first().T, x.b, place(16, 5), place(17, 5))), 1, v, false)
	}
	g := play(t, 3, 0)
	g.starts(g.l.Start(led(), value(16)), value(16))
	g.hands(refuse(2, 0, 16, lastStamp))
	g.proposes(g.hand(refuse(1, 0, 16, 16)), 1, value(lastStamp), false)
}

// TestHurry is P16.1 (L1): Hurry in each phase, with what was said in each, of that name and of others.
func TestHurry(t *testing.T) {
	tries(t, func(n, node int, s state) []act {
		far := hurry(led())
		far.other = 1
		less := hurry(led())
		less.other = -49
		return []act{hurry(led()), far, less}
	})
	each(func(n, node int) {
		for _, s := range states(n, node) {
			g := &game{t: t, l: bring(t, n, node, s).l, node: node, n: n}
			g.phase, g.bal, g.v = g.l.At(led().ID)
			g.waits(g.l.Hurry(led().ID))
			g.waits(g.l.Hurry(led().ID))
		}
	})
	// It goes on once alone.
	g := play(t, 5, 0)
	g.start()
	g.hands(yes(0), yes(1), yes(2))
	g.closes(g.l.Hurry(led().ID), 1, first())
	g.waits(g.l.Hurry(led().ID))
	g.hands(yes(3))
	if p, _, _ := g.l.At(led().ID); p != leader.Closing {
		t.Errorf("at %d", p)
	}
}
