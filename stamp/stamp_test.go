package stamp_test

import (
	"math"
	"math/bits"
	"slices"
	"testing"

	"lictor/api"
	"lictor/stamp"
)

// odd are numbers at which each call is asked: the edges of all that it looks at, and numbers far out.
func odd() []int {
	edges := []int{0, 16, 24, 32, 1 << 16, 1 << 20, 16 << 16, 1 << 32, math.MaxInt / 16, math.MinInt / 16}
	l := []int{math.MinInt, math.MinInt + 1, math.MaxInt - 1, math.MaxInt}
	for _, e := range edges {
		for d := -3; d <= 3; d++ {
			l = append(l, e+d)
		}
	}
	for x := -11; x <= 11; x++ {
		l = append(l, x)
	}
	slices.Sort(l)
	return slices.Compact(l)
}

// TestBallots is P1.1: the three constants.
func TestBallots(t *testing.T) {
	if stamp.Quick != 0 || stamp.Own != 1 || stamp.Free != 2 {
		t.Errorf("%d %d %d", stamp.Quick, stamp.Own, stamp.Free)
	}
}

// TestQuorums is P1.1 (S1): Right, Classic, Fast.
func TestQuorums(t *testing.T) {
	classic := map[int]int{3: 2, 4: 3, 5: 3, 6: 4, 7: 4, 8: 5, 9: 5}
	fast := map[int]int{3: 3, 4: 3, 5: 4, 6: 5, 7: 6, 8: 6, 9: 7}
	for _, n := range odd() {
		if got, want := stamp.Right(n), classic[n] > 0; got != want {
			t.Errorf("Right(%d): %t", n, got)
		}
		if got := stamp.Classic(n); got != classic[n] {
			t.Errorf("Classic(%d): %d, not %d", n, got, classic[n])
		}
		if got := stamp.Fast(n); got != fast[n] {
			t.Errorf("Fast(%d): %d, not %d", n, got, fast[n])
		}
	}
}

// TestNeed is P1.1 (S1): Need, by its formula, and 0 of what may not be.
func TestNeed(t *testing.T) {
	for _, x := range [][3]int{{3, 0, 0}, {3, 2, 2}, {3, 3, 3}, {5, 0, -1}, {5, 1, 0}, {5, 3, 2}, {5, 5, 4}, {8, 0, -2}, {9, 0, -2}, {9, 5, 3}, {9, 9, 7}} {
		if got := stamp.Need(x[0], x[1]); got != x[2] {
			t.Errorf("Need(%d, %d): %d, not %d", x[0], x[1], got, x[2])
		}
	}
	for _, n := range odd() {
		for _, q := range odd() {
			want := 0
			if 3 <= n && n <= 9 && 0 <= q && q <= n {
				want = stamp.Fast(n) - n + q
			}
			if got := stamp.Need(n, q); got != want {
				t.Errorf("Need(%d, %d): %d, not %d", n, q, got, want)
			}
		}
	}
}

// TestNeedIsLeast is P1.1 (S1): of each set of q replicas no fast quorum has fewer than Need, and one has just that,
// or none of them, if it is below 0.
func TestNeedIsLeast(t *testing.T) {
	for n := api.MinNodes; n <= api.MaxNodes; n++ {
		least := make([]int, n+1)
		for q := range least {
			least[q] = n
		}
		for _, f := range sets(n, stamp.Fast(n)) {
			for s := uint(0); s < 1<<n; s++ {
				q := bits.OnesCount(s)
				least[q] = min(least[q], bits.OnesCount(s&f))
			}
		}
		for q, want := range least {
			if got := stamp.Need(n, q); max(got, 0) != want {
				t.Errorf("Need(%d, %d): %d, but at least %d", n, q, got, want)
			}
		}
	}
}

// TestMake is P1.1 (S2): Make, and its errors in their order.
func TestMake(t *testing.T) {
	for _, x := range [][4]int{
		{1, 0, 16, 0}, {1, 8, 24, 0}, {2, 0, 32, 0}, {3, 8, 56, 0}, {65535, 0, 1048560, 0}, {65535, 8, 1048568, 0},
		{0, 0, 0, 1}, {-1, 0, 0, 1}, {math.MinInt, 3, 0, 1}, {1, -1, 0, 1}, {1, 9, 0, 1}, {1, 15, 0, 1}, {1, 16, 0, 1},
		{65536, 0, 0, 8}, {65536, 8, 0, 8}, {math.MaxInt, 0, 0, 8}, {1 << 60, 0, 0, 8},
		{65536, 9, 0, 1}, {65536, -1, 0, 1}, {math.MaxInt, math.MaxInt, 0, 1}, {0, 9, 0, 1},
	} {
		got, err := stamp.Make(x[0], x[1])
		if got != x[2] || err != api.Errno(x[3]) {
			t.Errorf("Make(%d, %d): %d %d", x[0], x[1], got, err)
		}
	}
}

// TestParts is P1.1 (S2): all timestamps are valid, and have the parts that they were made of, each another one.
func TestParts(t *testing.T) {
	last := 0
	for count := 1; count < api.MaxClock; count++ {
		for node := range api.MaxNodes {
			x, err := stamp.Make(count, node)
			if err != api.OK || x != 16*count+node || x <= last {
				t.Fatalf("Make(%d, %d): %d %d", count, node, x, err)
			}
			if !stamp.Valid(x) || stamp.Count(x) != count || stamp.Node(x) != node {
				t.Fatalf("%d: %t %d %d", x, stamp.Valid(x), stamp.Count(x), stamp.Node(x))
			}
			last = x
		}
	}
}

// TestNoTimestamp is P1.1 (S2): what is none.
func TestNoTimestamp(t *testing.T) {
	none := []int{math.MinInt, -16, -1, 0, 1, 8, 9, 15, 25, 31, 41, 57, 63, 1048569, 1048575, 1048576, 1048577, 1 << 32, 1<<32 + 16, 1 << 40, math.MaxInt - 15, math.MaxInt}
	for _, x := range none {
		if stamp.Valid(x) || stamp.Count(x) != 0 || stamp.Node(x) != -1 {
			t.Errorf("%d: %t %d %d", x, stamp.Valid(x), stamp.Count(x), stamp.Node(x))
		}
	}
	for x := -100; x < 16*api.MaxClock+100; x++ {
		want := x >= 16 && x < 16*api.MaxClock && x%16 <= 8
		if stamp.Valid(x) != want {
			t.Fatalf("Valid(%d): not %t", x, want)
		}
	}
}

// TestNext is P1.1 (S2): Next, and its errors.
func TestNext(t *testing.T) {
	for _, x := range [][4]int{
		{16, 0, 32, 0}, {24, 0, 32, 0}, {16, 8, 40, 0}, {56, 1, 65, 0}, {1048552, 8, 1048568, 0}, {1048544, 0, 1048560, 0},
		{0, 0, 16, 0}, {7, 1, 17, 0}, {-1, 2, 18, 0}, {57, 3, 19, 0}, {1048569, 4, 20, 0}, {1048576, 8, 24, 0}, {math.MaxInt, 5, 21, 0}, {math.MinInt, 6, 22, 0},
		{1048560, 0, 0, 8}, {1048568, 8, 0, 8}, {1048568, 0, 0, 8},
		{16, -1, 0, 1}, {16, 9, 0, 1}, {0, 9, 0, 1}, {1048560, 9, 0, 1}, {1048568, -1, 0, 1}, {16, math.MinInt, 0, 1}, {16, math.MaxInt, 0, 1},
	} {
		got, err := stamp.Next(x[0], x[1])
		if got != x[2] || err != api.Errno(x[3]) {
			t.Errorf("Next(%d, %d): %d %d", x[0], x[1], got, err)
		}
	}
}

// owner is whose a ballot is, counted up.
func owner(b, n int) int {
	for round := 0; 2+n*round <= b; round++ {
		for node := range n {
			if 2+n*round+node == b {
				return node
			}
		}
	}
	return -1
}

// TestOwner is P1.1 (S3): Owner.
func TestOwner(t *testing.T) {
	for n := api.MinNodes; n <= api.MaxNodes; n++ {
		for b := -3; b < 100; b++ {
			if got, want := stamp.Owner(b, n), owner(b, n); got != want {
				t.Errorf("Owner(%d, %d): %d, not %d", b, n, got, want)
			}
		}
		last := owner(1<<20, n)
		if got := stamp.Owner(1<<20, n); got != last || got < 0 {
			t.Errorf("Owner(2^20, %d): %d, not %d", n, got, last)
		}
	}
	for _, x := range [][2]int{
		{0, 3}, {1, 3}, {-1, 3}, {-2, 3}, {math.MinInt, 9}, {1<<20 + 1, 3}, {1<<20 + 1, 9}, {1 << 40, 5}, {math.MaxInt, 9},
		{2, 2}, {5, 2}, {5, 10}, {2, 0}, {5, 1}, {5, -3}, {5, math.MinInt}, {5, math.MaxInt},
	} {
		if got := stamp.Owner(x[0], x[1]); got != -1 {
			t.Errorf("Owner(%d, %d): %d", x[0], x[1], got)
		}
	}
}

// TestAbove is P1.1 (S3): the least ballot of a replica above b, found by looking at each one.
func TestAbove(t *testing.T) {
	for n := api.MinNodes; n <= api.MaxNodes; n++ {
		for node := range n {
			for b := -5; b < 60; b++ {
				want := max(b+1, 2)
				for owner(want, n) != node {
					want++
				}
				if got, err := stamp.Above(b, node, n); got != want || err != api.OK {
					t.Errorf("Above(%d, %d, %d): %d %d, not %d", b, node, n, got, err, want)
				}
			}
			if got, err := stamp.Above(math.MinInt, node, n); got != 2+node || err != api.OK {
				t.Errorf("Above(least, %d, %d): %d %d", node, n, got, err)
			}
		}
	}
}

// TestAboveEnd is P1.1 (S3): up to the greatest ballot, and no farther.
func TestAboveEnd(t *testing.T) {
	for n := api.MinNodes; n <= api.MaxNodes; n++ {
		for node := range n {
			last := 1 << 20
			for (last-2)%n != node {
				last--
			}
			if got, err := stamp.Above(last-1, node, n); got != last || err != api.OK {
				t.Errorf("Above(%d, %d, %d): %d %d", last-1, node, n, got, err)
			}
			for _, b := range []int{last, 1 << 20, 1<<20 + 1, 1 << 40, math.MaxInt - 1, math.MaxInt} {
				if got, err := stamp.Above(b, node, n); got != 0 || err != api.ErrOver {
					t.Errorf("Above(%d, %d, %d): %d %d", b, node, n, got, err)
				}
			}
		}
	}
}

// TestAboveArg is P1.1 (S3): what may not be is told ahead of what is too great.
func TestAboveArg(t *testing.T) {
	for _, b := range []int{math.MinInt, 0, 5, 1 << 20, math.MaxInt} {
		for _, x := range [][2]int{{0, 2}, {0, 10}, {0, 0}, {0, -3}, {0, math.MinInt}, {0, math.MaxInt}, {-1, 3}, {3, 3}, {9, 9}, {math.MinInt, 5}, {math.MaxInt, 5}} {
			if got, err := stamp.Above(b, x[0], x[1]); got != 0 || err != api.ErrArg {
				t.Errorf("Above(%d, %d, %d): %d %d", b, x[0], x[1], got, err)
			}
		}
	}
}

// sets are all sets of k of n replicas, a bit each.
func sets(n, k int) []uint {
	var l []uint
	for s := uint(0); s < 1<<n; s++ {
		if bits.OnesCount(s) == k {
			l = append(l, s)
		}
	}
	return l
}

// TestMeet is P1.2: any two classic quorums meet, and any two fast ones and a classic one.
func TestMeet(t *testing.T) {
	for n := api.MinNodes; n <= api.MaxNodes; n++ {
		classic, fast := sets(n, stamp.Classic(n)), sets(n, stamp.Fast(n))
		if len(classic) == 0 || len(fast) == 0 {
			t.Errorf("%d: no quorum", n)
		}
		for _, c := range classic {
			for _, d := range classic {
				if c&d == 0 {
					t.Fatalf("%d: %b and %b", n, c, d)
				}
			}
			for _, f := range fast {
				for _, g := range fast {
					if c&f&g == 0 {
						t.Fatalf("%d: %b, %b and %b", n, c, f, g)
					}
				}
			}
		}
	}
}

// TestAlwaysNew is P1.3: Next is above any timestamp, whosever it is, and a timestamp of who asks.
func TestAlwaysNew(t *testing.T) {
	for count := 1; count < api.MaxClock; count++ {
		for whose := range api.MaxNodes {
			old := 16*count + whose
			for node := range api.MaxNodes {
				x, err := stamp.Next(old, node)
				if count == api.MaxClock-1 {
					if x != 0 || err != api.ErrOver {
						t.Fatalf("Next(%d, %d): %d %d", old, node, x, err)
					}
					continue
				}
				if err != api.OK || x <= old || !stamp.Valid(x) || stamp.Node(x) != node {
					t.Fatalf("Next(%d, %d): %d %d", old, node, x, err)
				}
			}
		}
	}
}

// answers are what all calls answer at three numbers.
func answers(a, b, c int) [13]int {
	yes := func(ok bool) int {
		if ok {
			return 1
		}
		return 0
	}
	made, wrongMade := stamp.Make(a, b)
	next, wrongNext := stamp.Next(a, b)
	above, wrongAbove := stamp.Above(a, b, c)
	return [13]int{
		yes(stamp.Right(a)), stamp.Classic(a), stamp.Fast(a), stamp.Need(a, b), made, int(wrongMade), stamp.Count(a),
		stamp.Node(a)*2 + yes(stamp.Valid(a)), next, int(wrongNext), stamp.Owner(a, b), above, int(wrongAbove),
	}
}

// TestWhateverIsAsked is P1 and P2: every call ends, at whatever numbers, and answers the same when it is asked again,
// with others asked between; with an error its number is 0.
func TestWhateverIsAsked(t *testing.T) {
	type triple struct{ a, b, c int }
	l := odd()
	near := []int{math.MinInt, -1, 0, 2, 3, 4, 8, 9, 10, math.MaxInt}
	first := map[triple][13]int{}
	for _, a := range l {
		for _, b := range l {
			for _, c := range near {
				got := answers(a, b, c)
				for _, i := range []int{4, 8, 11} {
					if got[i+1] != 0 && got[i] != 0 {
						t.Fatalf("%d %d %d: %v", a, b, c, got)
					}
				}
				first[triple{a, b, c}] = got
			}
		}
	}
	for x, want := range first {
		if got := answers(x.a, x.b, x.c); got != want {
			t.Fatalf("%v: %v, then %v", x, want, got)
		}
	}
}
