package order_test

import (
	"math/rand"
	"slices"
	"testing"

	"lictor/api"
	"lictor/entry"
	"lictor/order"
)

// history are entries that are done, of two symbols, each with all those of its symbol that have a lesser timestamp among
// its P: those that P17.2 speaks of. No two of a symbol have one timestamp, but two of different symbols may.
func history(r *rand.Rand, size int) []entry.Entry {
	at := [2]int{16, 16}
	var ahead [2][]api.Cmd
	var l []entry.Entry
	for k := range size {
		s := r.Intn(2)
		at[s] += 1 + r.Intn(3)
		c := place(16*(1+k)+r.Intn(3), s)
		l = append(l, entry.Entry{Cmd: c, Done: true, V: api.Value{T: at[s], P: slices.Clone(ahead[s])}})
		ahead[s] = append(ahead[s], c)
	}
	return l
}

// more gives some of them others among their P, too: later ones, and those of the other symbol.
func more(r *rand.Rand, l []entry.Entry) {
	for i := range l {
		for r.Intn(3) == 0 {
			c := l[r.Intn(len(l))].Cmd
			if !slices.Contains(l[i].V.P, c) && c != l[i].Cmd {
				l[i].V.P = append(l[i].V.P, c)
			}
		}
	}
}

func shuffle(r *rand.Rand, l []entry.Entry) {
	r.Shuffle(len(l), func(i, j int) { l[i], l[j] = l[j], l[i] })
}

// of are those of a symbol among what is told.
func of(l []api.Cmd, symbol int) []api.Cmd {
	return slices.DeleteFunc(slices.Clone(l), func(c api.Cmd) bool { return c.Symbol != symbol })
}

// times are the timestamps with which they are done.
func times(l []entry.Entry, told []api.Cmd) []int {
	var at []int
	for _, c := range told {
		at = append(at, l[firstOf(l, c.ID)].V.T)
	}
	return at
}

// rises asks for rising timestamps, of which no two are the same.
func rises(t *testing.T, l []entry.Entry, told []api.Cmd) {
	at := times(l, told)
	for i := range at[:max(0, len(at)-1)] {
		if at[i] >= at[i+1] {
			t.Fatalf("of%s: told %v at %v", short(l), names(told), at)
		}
	}
}

// begins asks for what is told of some entries to be a beginning of what is told of all.
func begins(t *testing.T, l []entry.Entry, some, all []api.Cmd) {
	if len(some) > len(all) || !slices.Equal(some, all[:len(some)]) {
		t.Fatalf("of%s: told %v, which isn't a beginning of %v", short(l), names(some), names(all))
	}
}

// TestInTheOrderOfTime is P17.2: of all subsets of small histories, in any order in which they stand.
func TestInTheOrderOfTime(t *testing.T) {
	r := rand.New(rand.NewSource(172))
	whole, part, fewer := 0, 0, 0
	for range 400 {
		l := history(r, 1+r.Intn(7))
		more(r, l)
		shuffle(r, l)
		all := order.All(l)
		for s := range 2 {
			rises(t, l, of(all, s))
		}
		for k := range 1 << len(l) {
			var some []entry.Entry
			for i, e := range l {
				if k>>i&1 == 1 {
					some = append(some, e)
				}
			}
			shuffle(r, some)
			told := order.All(some)
			for s := range 2 {
				rises(t, some, of(told, s))
				begins(t, some, of(told, s), of(all, s))
			}
			whole, part, fewer = tallied(whole, part, fewer, len(told), len(some), len(all))
		}
	}
	if whole < 900 || part < 900 || fewer < 900 {
		t.Errorf("came too seldom: %d %d %d", whole, part, fewer)
	}
}

// tallied counts what is told of some: all of them, some of them, or none.
func tallied(whole, part, fewer, told, some, all int) (int, int, int) {
	switch {
	case told == some && told < all:
		whole++
	case 0 < told && told < some:
		part++
	case told == 0 && some > 0:
		fewer++
	}
	return whole, part, fewer
}

// TestAllOfThem has histories without anything more told whole, each symbol's in the order of its time.
func TestAllOfThem(t *testing.T) {
	r := rand.New(rand.NewSource(173))
	for range 500 {
		l := history(r, 1+r.Intn(40))
		want := slices.Clone(l)
		shuffle(r, l)
		told := order.All(l)
		if len(told) != len(l) || order.Waits(l) != nil {
			t.Fatalf("of%s: told only %v", short(l), names(told))
		}
		for s := range 2 {
			var mine []api.Cmd
			for _, e := range want {
				if e.Cmd.Symbol == s {
					mine = append(mine, e.Cmd)
				}
			}
			if got := of(told, s); !slices.Equal(got, mine) {
				t.Fatalf("of%s: told %v, want %v", short(l), names(got), names(mine))
			}
		}
	}
}

// TestAsItComesIn has several replicas learn entries in different orders, and deliver what they can behind each: all of
// them deliver the same of a symbol in the end, and none another one ahead.
func TestAsItComesIn(t *testing.T) {
	r := rand.New(rand.NewSource(174))
	for range 200 {
		l := history(r, 2+r.Intn(20))
		more(r, l)
		all := order.All(l)
		for range 4 {
			shuffle(r, l)
			var had []int
			var told []api.Cmd
			for i := range l {
				now := order.All(l[:i+1], had...)
				told = append(told, now...)
				had = append(had, names(now)...)
				for s := range 2 {
					begins(t, l[:i+1], of(told, s), of(all, s))
				}
			}
			if len(told) != len(all) || !slices.Equal(of(told, 0), of(all, 0)) || !slices.Equal(of(told, 1), of(all, 1)) {
				t.Fatalf("of%s: told %v, want %v", short(l), names(told), names(all))
			}
		}
	}
}

// TestLeftOut has an entry left out, at each place: nothing of its symbol that is later is told, and all of the other one.
func TestLeftOut(t *testing.T) {
	l := history(rand.New(rand.NewSource(175)), 12)
	for i := range l {
		some := slices.Delete(slices.Clone(l), i, i+1)
		var told, waits []int
		for k, e := range l {
			if e.Cmd.Symbol != l[i].Cmd.Symbol || k < i {
				told = append(told, e.Cmd.ID)
			} else if k > i {
				waits = append(waits, e.Cmd.ID)
			}
		}
		got := names(order.All(some))
		slices.Sort(got)
		if !slices.Equal(got, told) {
			t.Errorf("without %d: told %v, want %v", l[i].Cmd.ID, got, told)
		}
		if left := order.Waits(some); !slices.Equal(left, waits) {
			t.Errorf("without %d: %v wait, want %v", l[i].Cmd.ID, left, waits)
		}
	}
}
