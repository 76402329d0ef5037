package order_test

import (
	"math"
	"math/rand"
	"slices"
	"testing"

	"lictor/api"
	"lictor/entry"
	"lictor/order"
)

// TestMayNotBe are entries that may not be: the words ask for no more than that they are done, so they count as they are.
func TestMayNotBe(t *testing.T) {
	none := entry.Entry{Done: true}
	tells(t, rows(none), nil, []int{0}, nil)
	tells(t, rows(none), []int{0}, nil, nil)
	tells(t, rows(done(17, 32), none, done(-5, -32)), nil, []int{-5, 0, 17}, nil)
	tells(t, rows(entry.Entry{}), nil, nil, nil)
	// Timestamps that are none.
	tells(t, rows(done(17, math.MaxInt), done(18, math.MinInt), done(19, 15), done(20, -1)), nil, []int{18, 20, 19, 17}, nil)
	tells(t, rows(done(17, math.MinInt, 18), done(18, math.MaxInt, 17)), nil, []int{17, 18}, nil)
	tells(t, rows(done(17, math.MinInt, 18), done(18, math.MinInt)), nil, []int{18, 17}, nil)
	tells(t, rows(done(17, math.MaxInt, 18), done(18, math.MaxInt, 17)), nil, nil, []int{17, 18})
	tells(t, rows(done(17, math.MaxInt-1, 18), done(18, math.MaxInt)), nil, []int{17, 18}, nil)
	// Names that are none.
	tells(t, rows(done(math.MaxInt, 32), done(math.MinInt, 48, math.MaxInt)), nil, []int{math.MaxInt, math.MinInt}, nil)
	tells(t, rows(done(math.MinInt, 48, math.MaxInt)), []int{math.MaxInt}, nil, []int{math.MinInt})
	tells(t, rows(done(15, 48, 0), done(0, 32)), []int{0}, []int{15}, nil)
}

// TestOtherParts has parts of an entry of which the words don't speak be anything at all.
func TestOtherParts(t *testing.T) {
	for k := range 12 {
		l := rows(done(18, 48, 17), done(17, 32), fresh(19), done(33, 64, 19))
		for i := range l {
			spoilPart(&l[i], k)
		}
		tells(t, l, nil, []int{17, 18}, []int{33})
		tells(t, l, []int{17}, []int{18}, []int{33})
	}
}

// spoilPart makes one part of an entry another one, of which nothing that is told hangs.
func spoilPart(e *entry.Entry, k int) {
	v := api.Value{T: 8, P: asks(90, 90, 17)}
	switch k {
	case 0:
		e.Promised = -1
	case 1:
		e.Promised = 1 << 40
	case 2:
		e.Low, e.High = 80, 16
	case 3:
		e.Low, e.High = -1, -1
	case 4:
		e.F = v
	case 5:
		e.AB = -3
	case 6:
		e.AB, e.A = 9, v
	case 7:
		e.A = v
	case 8:
		e.Freed = true
	case 9:
		e.Cmd.Kind, e.Cmd.Side = 9, -1
	case 10:
		e.Cmd.Symbol, e.Cmd.Target = 77, 18
	case 11:
		e.Cmd.Price, e.Cmd.Qty = -1, math.MaxInt
	}
}

// TestNotDoneWithValue is one that isn't done, though it has a value: it counts as not done.
func TestNotDoneWithValue(t *testing.T) {
	e := done(17, 32)
	e.Done = false
	tells(t, rows(e), nil, nil, nil)
	tells(t, rows(done(18, 48, 17), e), nil, nil, []int{18})
	tells(t, rows(done(18, 16, 17), e), nil, nil, []int{18})
	tells(t, rows(done(18, 48, 17), e), []int{17}, nil, []int{18})
}

// wild is any number, mostly one of those at which something may change.
func wild(r *rand.Rand) int {
	few := []int{0, 1, -1, 15, 16, 17, 18, 33, 32, 48, 1 << 16, 1 << 20, 1<<40 + 1, math.MaxInt, math.MinInt, math.MinInt + 1}
	if r.Intn(9) == 0 {
		return int(r.Uint64())
	}
	return few[r.Intn(len(few))]
}

func wildCmd(r *rand.Rand) api.Cmd {
	return api.Cmd{ID: wild(r), Kind: api.Kind(wild(r)), Symbol: wild(r), Target: wild(r), Side: api.Side(wild(r)),
		Price: wild(r), Qty: wild(r)}
}

func wildValue(r *rand.Rand) api.Value {
	v := api.Value{T: wild(r)}
	for range r.Intn(1 + r.Intn(4)) {
		v.P = append(v.P, wildCmd(r))
	}
	return v
}

// TestAnyNumbers is P1: entries and names of any numbers, held against the words.
func TestAnyNumbers(t *testing.T) {
	r := rand.New(rand.NewSource(1))
	var n tally
	for range 40000 {
		var l []entry.Entry
		for range r.Intn(12) {
			l = append(l, entry.Entry{Cmd: wildCmd(r), Promised: wild(r), Low: wild(r), High: wild(r), F: wildValue(r),
				AB: wild(r), A: wildValue(r), Freed: r.Intn(2) == 0, Done: r.Intn(6) > 0, V: wildValue(r)})
		}
		var had []int
		for range r.Intn(1 + r.Intn(6)) {
			had = append(had, wild(r))
		}
		n.holds(t, l, had)
	}
	n.often(t, 900, 100)
}

// TestAnyNames has names delivered that nothing can have, beside the right ones.
func TestAnyNames(t *testing.T) {
	had := []int{math.MinInt, math.MaxInt, 0, -17, 15, 1 << 40}
	tells(t, several(), had, []int{17, 18, 19}, []int{33, 34})
	tells(t, several(), append(slices.Clone(had), 17), []int{18, 19}, []int{33, 34})
	if c, ok := order.Next(nil, had...); ok || c != (api.Cmd{}) {
		t.Errorf("Next of nothing: %v %v", c, ok)
	}
}
