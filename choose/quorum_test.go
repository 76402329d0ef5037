package choose_test

import (
	"math/bits"
	"testing"

	"lictor/api"
	"lictor/choose"
)

// sets are all sets of n replicas, of k at least and of most at most, a bit each.
func sets(n, k, most int) []int {
	var l []int
	for s := range 1 << n {
		if many := bits.OnesCount(uint(s)); k <= many && many <= most {
			l = append(l, s)
		}
	}
	return l
}

// those are the messages of a set of replicas, of one of each.
func those(all []api.Msg, set int) []api.Msg {
	var l []api.Msg
	for _, m := range all {
		if set>>m.From&1 == 1 {
			l = append(l, m)
		}
	}
	return l
}

// leave tells whether any classic quorum's promises leave just that, and those of any more.
func leave(t *testing.T, all []api.Msg, k choose.Kind, v api.Value) {
	t.Helper()
	n := len(all)
	for _, set := range sets(n, classic(n), n) {
		l := those(all, set)
		leaves(t, n, l, k, v)
		leaves(t, n, backwards(l), k, v)
	}
}

// TestDecidedAtFirst is P15.2: whichever fast quorum has one fast value, and whatever the others have, who are not freed and
// have accepted nothing.
func TestDecidedAtFirst(t *testing.T) {
	f := value(at(3, 1), place(17, 5), place(18, 1))
	for n := leastNodes; n <= mostNodes; n++ {
		rest := []func(node int) api.Value{
			func(int) api.Value { return value(0) },
			func(int) api.Value { return value(at(3, 1), place(17, 5)) },
			func(node int) api.Value { return value(at(4, node), f.P...) },
			func(node int) api.Value { return []api.Value{f, value(at(2, 2), f.P...)}[node%2] },
		}
		for _, quorum := range sets(n, fast(n), fast(n)) {
			for _, other := range rest {
				all := plain(n)
				for i := range all {
					all[i].V.P = many(i)
					if all[i].F = other(i); quorum>>i&1 == 1 {
						all[i].F = f
					}
				}
				leave(t, all, choose.Exact, f)
			}
		}
	}
}

// TestNotDecided are the neighbours of P15.2: with one less than a fast quorum some classic one leaves another thing, if
// those beside it have none; with one that is freed, or has accepted something, so does each in which that one is.
func TestNotDecided(t *testing.T) {
	f, a := value(at(3, 1), place(17, 5)), value(at(9, 2))
	for n := leastNodes; n <= mostNodes; n++ {
		all := plain(n)
		for i := range fast(n) {
			all[i].F = f
		}
		less := with(all, 0, plain(1)[0])
		without := 1<<n - 1<<fast(n) + 1 // those of less that have no fast value
		for _, set := range sets(n, classic(n), classic(n)) {
			last := bits.Len(uint(set)) - 1
			free := value(at(10+last, last))
			if set&without == without {
				leaves(t, n, those(less, set), choose.Free, free)
			}
			if set&1 == 1 {
				leaves(t, n, those(with(all, 0, freed(all[0])), set), choose.Free, free)
				leaves(t, n, those(with(all, 0, accepted(all[0], 1, a)), set), choose.Bound, a)
			}
		}
	}
}

// TestWhatWasAccepted is P15.3: whichever classic quorum has accepted one value, at a ballot, or at it and at greater ones,
// and whatever the others have accepted below, or that value above; and whatever fast values they have, freed or not.
func TestWhatWasAccepted(t *testing.T) {
	v, f := value(at(3, 1), place(17, 5), place(18, 1)), value(at(2, 2), place(18, 1))
	below := func(m api.Msg, b int) api.Msg { return accepted(m, b, value(at(100+b%9, m.From))) }
	for n := leastNodes; n <= mostNodes; n++ {
		for _, quorum := range sets(n, classic(n), classic(n)) {
			for _, b := range []int{1, 2, 6, mostBallot - 9} {
				var lone, low, mixed []api.Msg
				for i, m := range plain(n) {
					m.V.P, m.Flag = many(i), i%3 == b%3
					m.F = f
					bound := accepted(m, b, v)
					higher := accepted(m, b+i, v)
					if quorum>>i&1 == 1 {
						lone, low, mixed = append(lone, bound), append(low, bound), append(mixed, higher)
						continue
					}
					lone, low = append(lone, m), append(low, below(m, b-1))
					mixed = append(mixed, []api.Msg{higher, below(m, b/2), m}[i%3])
				}
				leave(t, lone, choose.Bound, v)
				leave(t, low, choose.Bound, v)
				leave(t, mixed, choose.Bound, v)
			}
		}
	}
}
