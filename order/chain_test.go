package order_test

import (
	"math/rand"
	"slices"
	"testing"

	"lictor/api"
	"lictor/entry"
	"lictor/order"
)

// chain are n entries, each with the one ahead of it alone among its P; time says their timestamps.
func chain(n int, time func(i int) int) []entry.Entry {
	l := rows(done(1, time(1)))
	for i := 2; i <= n; i++ {
		l = append(l, done(i, time(i), i-1))
	}
	return l
}

func rising(i int) int { return 16 * i }

func same(int) int { return 16 }

// counted are the numbers from one to another one.
func counted(from, to int) []int {
	var l []int
	for i := from; i <= to; i++ {
		l = append(l, i)
	}
	return l
}

// turned are entries in several orders: as they are, from behind, and mixed.
func turned(l []entry.Entry) [][]entry.Entry {
	back := slices.Clone(l)
	slices.Reverse(back)
	out := [][]entry.Entry{l, back}
	r := rand.New(rand.NewSource(int64(len(l))))
	for range 3 {
		mixed := slices.Clone(l)
		shuffle(r, mixed)
		out = append(out, mixed)
	}
	return out
}

// permuted calls for entries in each order in which they may stand.
func permuted(l []entry.Entry, k int, call func()) {
	if k == len(l) {
		call()
	}
	for i := k; i < len(l); i++ {
		l[k], l[i] = l[i], l[k]
		permuted(l, k+1, call)
		l[k], l[i] = l[i], l[k]
	}
}

// TestChain are chains, in each order in which their entries may stand, with rising timestamps and with one alone.
func TestChain(t *testing.T) {
	for _, time := range []func(int) int{rising, same} {
		for n := range 7 {
			l := chain(n+1, time)
			permuted(l, 0, func() {
				tells(t, l, nil, counted(1, n+1), nil)
				tells(t, l, []int{1}, counted(2, n+1), nil)
			})
		}
	}
}

// TestCutChain are chains with one that isn't done, or isn't there, or is delivered, at each place.
func TestCutChain(t *testing.T) {
	for k := 1; k <= 6; k++ {
		l := chain(6, rising)
		permuted(l, 0, func() {
			at := firstOf(l, k)
			old := l[at]
			l[at] = known(k, 16*k)
			var left []int
			for _, e := range l {
				if e.Cmd.ID > k {
					left = append(left, e.Cmd.ID)
				}
			}
			tells(t, l, nil, counted(1, k-1), left)
			tells(t, slices.Delete(slices.Clone(l), at, at+1), nil, counted(1, k-1), left)
			l[at] = old
			tells(t, l, counted(1, k), counted(k+1, 6), nil)
		})
	}
}

// TestLongChain are chains as long as all replicas' commands together, and longer.
func TestLongChain(t *testing.T) {
	for _, n := range []int{9 * api.MaxSeq, 60000} {
		for _, time := range []func(int) int{rising, same} {
			for _, l := range turned(chain(n, time)) {
				if got := names(order.All(l)); !slices.Equal(got, counted(1, n)) {
					t.Errorf("%d: told %d", n, len(got))
				}
				if got := order.Waits(l); got != nil {
					t.Errorf("%d: %d wait", n, len(got))
				}
				if c, ok := order.Next(l, counted(1, n/2)...); !ok || c.ID != n/2+1 {
					t.Errorf("%d: Next %v %v", n, c, ok)
				}
				l = slices.Delete(slices.Clone(l), firstOf(l, n/2), firstOf(l, n/2)+1)
				if got := names(order.All(l)); !slices.Equal(got, counted(1, n/2-1)) {
					t.Errorf("%d, one left out: told %d", n, len(got))
				}
				got := order.Waits(l)
				slices.Sort(got)
				if !slices.Equal(got, counted(n/2+1, n)) {
					t.Errorf("%d, one left out: %d wait", n, len(got))
				}
			}
		}
	}
}

// full are n entries, each with all that are ahead of it among its P, up to the greatest set.
func full(n int) []entry.Entry {
	var ahead []api.Cmd
	var l []entry.Entry
	for i := 1; i <= n; i++ {
		e := done(i, 16*i)
		e.V.P = ahead[max(0, len(ahead)-api.MaxPreds):]
		ahead = append(ahead, e.Cmd)
		l = append(l, e)
	}
	return l
}

// TestGreatSets are as many commands as all replicas may have, with the greatest sets that may be.
func TestGreatSets(t *testing.T) {
	n := 9 * api.MaxSeq
	for _, l := range turned(full(n)) {
		if got := names(order.All(l)); !slices.Equal(got, counted(1, n)) {
			t.Errorf("told %d", len(got))
		}
		if c, ok := order.Next(l); !ok || c.ID != 1 {
			t.Errorf("Next %v %v", c, ok)
		}
		if got := order.Waits(l, counted(3, n-1)...); got != nil {
			t.Errorf("%d wait", len(got))
		}
		if got := names(order.All(l, counted(1, n-1)...)); !slices.Equal(got, []int{n}) {
			t.Errorf("told %v", got)
		}
		l[firstOf(l, 7)].Done = false
		if got := names(order.All(l)); !slices.Equal(got, counted(1, 6)) {
			t.Errorf("without the seventh one: told %v", got)
		}
	}
}
