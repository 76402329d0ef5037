package index_test

import (
	"fmt"
	"math"
	"slices"
	"testing"

	"lictor/api"
	"lictor/entry"
	"lictor/index"
)

// What the document says, by its numbers.
const (
	replicas   = 9
	lastClock  = 65535
	leastStamp = 16
	lastStamp  = 16*65535 + 8
	mostBallot = 1 << 20
	most       = 1 << 20 // of a price, and of a qty
	mostSeq    = 256
	mostPreds  = 1024
)

// at is the timestamp of a count, of a replica.
func at(count, node int) int { return 16*count + node }

// place, cancel and amend are commands of a name and a symbol, as short as can be.
func place(id, symbol int) api.Cmd {
	return api.Cmd{ID: id, Kind: api.Place, Symbol: symbol, Side: api.Sell, Price: 5, Qty: id % 7}
}

func cancel(id, symbol, target int) api.Cmd {
	return api.Cmd{ID: id, Kind: api.Cancel, Symbol: symbol, Target: target}
}

func amend(id, symbol, target, qty int) api.Cmd {
	return api.Cmd{ID: id, Kind: api.Amend, Symbol: symbol, Target: target, Qty: qty}
}

func value(t int, p ...api.Cmd) api.Value { return api.Value{T: t, P: p} }

// bare is a command's entry with nothing else; the others have more of it.
func bare(c api.Cmd) entry.Entry { return entry.Entry{Cmd: c} }

func reserved(e entry.Entry, low, high int) entry.Entry {
	e.Low, e.High = low, high
	return e
}

func voted(e entry.Entry, v api.Value) entry.Entry {
	e.F = v
	return e
}

func accepted(e entry.Entry, b int, v api.Value) entry.Entry {
	e.Promised, e.AB, e.A = b, b, v
	return e
}

func freed(e entry.Entry) entry.Entry {
	e.Freed = true
	return e
}

func done(e entry.Entry, v api.Value) entry.Entry {
	e.Done, e.V = true, v
	return e
}

// full is an entry with something of all that one can have.
func full(c api.Cmd) entry.Entry {
	e := accepted(voted(reserved(bare(c), at(2, 1), at(9, 3)), value(at(4, 0), place(16, 0))), 7, value(at(5, 2)))
	return freed(done(e, value(at(6, 6), place(16, 0), place(33, 1))))
}

// wrongCmds are commands that may not be, each by one part.
func wrongCmds() []api.Cmd {
	c, d := place(17, 0), cancel(17, 0, 33)
	l := []api.Cmd{{}, {ID: 17, Kind: 3}, {ID: 17, Kind: -1}, {ID: 17, Target: 33}, {ID: 17, Side: 2}, {ID: 17, Side: -1}, cancel(17, 0, 0), amend(17, 0, 0, 1)}
	for _, id := range []int{math.MinInt, -17, -1, 0, 15, 25, 16*mostSeq + 9, 16 * (mostSeq + 1), 1<<32 + 17, math.MaxInt} {
		c.ID = id
		l = append(l, c)
	}
	for _, n := range []int{math.MinInt, -1, most + 1, math.MaxInt} {
		l = append(l, api.Cmd{ID: 17, Price: n}, api.Cmd{ID: 17, Qty: n}, amend(17, 0, 33, n), place(17, n), cancel(17, n, 33), cancel(17, 0, n))
	}
	d.Qty = 1
	return append(l, d, place(17, 4))
}

// wrong are entries that may not be, each by one part.
func wrong() []entry.Entry {
	var l []entry.Entry
	for _, c := range wrongCmds() {
		l = append(l, bare(c), full(c))
	}
	with := func(change func(e *entry.Entry)) {
		for _, e := range []entry.Entry{bare(place(17, 0)), full(place(17, 0))} {
			change(&e)
			l = append(l, e)
		}
	}
	for _, b := range []int{math.MinInt, -1, mostBallot + 1, math.MaxInt} {
		with(func(e *entry.Entry) { e.Promised = b })
		with(func(e *entry.Entry) { e.AB = b })
	}
	for _, r := range [][2]int{{0, 16}, {16, 0}, {33, 32}, {15, 16}, {16, 25}, {-16, 16}, {16, lastStamp + 1}, {-1, -1}, {math.MinInt, math.MaxInt}} {
		with(func(e *entry.Entry) { e.Low, e.High = r[0], r[1] })
	}
	for _, v := range []api.Value{
		value(-1), value(15), value(25), value(lastStamp + 1), value(math.MinInt), value(math.MaxInt), value(0, place(16, 0)),
		value(16, place(33, 0), place(17, 0)), value(16, place(17, 0), place(17, 0)), value(16, api.Cmd{}), value(16, place(16, 4)),
	} {
		with(func(e *entry.Entry) { e.F = v })
		with(func(e *entry.Entry) { e.AB, e.A = 1, v })
		with(func(e *entry.Entry) { e.Done, e.V = true, v })
	}
	with(func(e *entry.Entry) { e.AB, e.A = 0, value(16) })
	with(func(e *entry.Entry) { e.AB, e.A = 1, api.Value{} })
	with(func(e *entry.Entry) { e.Done, e.V = false, value(16) })
	with(func(e *entry.Entry) { e.Done, e.V = true, api.Value{} })
	return l
}

func list(l ...entry.Entry) []entry.Entry { return l }

func names(l ...int) []int { return l }

func cmds(l ...api.Cmd) []api.Cmd { return l }

// made is an index of which New tells no error.
func made(t *testing.T, node, clock int, l ...entry.Entry) *index.Index {
	t.Helper()
	x, err := index.New(node, clock, l...)
	if x == nil || err != api.OK {
		t.Fatalf("New(%d, %d, %s): %d", node, clock, short(l), err)
	}
	return x
}

// refused tells whether New tells an error, and nothing else.
func refused(t *testing.T, want api.Errno, node, clock int, l ...entry.Entry) {
	t.Helper()
	if x, err := index.New(node, clock, l...); x != nil || err != want {
		t.Errorf("New(%d, %d, %s): %v %d, not %d", node, clock, short(l), x, err, want)
	}
}

// short is how something is printed, but no more than its beginning.
func short(x any) string {
	s := fmt.Sprintf("%+v", x)
	return s[:min(len(s), 500)]
}

// has tells whether an index has just these entries, that stand by names, and that clock.
func has(t *testing.T, x *index.Index, clock int, want ...entry.Entry) {
	t.Helper()
	if got := x.All(); !slices.EqualFunc(got, want, entry.Same) {
		t.Errorf("entries %s, not %s", short(got), short(want))
	}
	if got := x.Clock(); got != clock {
		t.Errorf("clock %d, not %d", got, clock)
	}
	for _, e := range want {
		if got, ok := x.Get(e.Cmd.ID); !ok || !entry.Same(got, e) {
			t.Errorf("Get(%d): %s %t, not %s", e.Cmd.ID, short(got), ok, short(e))
		}
	}
}

// changed tells whether just these names are told as what changed, and none when asked again.
func changed(t *testing.T, x *index.Index, want ...int) {
	t.Helper()
	for _, l := range [][]int{want, nil, nil} {
		if got := x.Changed(); !slices.Equal(got, l) {
			t.Errorf("changed %v, not %v", got, l)
		}
	}
}

// ticks tells whether a tick has that count, and is the index's own replica's.
func ticks(t *testing.T, x *index.Index, count int) {
	t.Helper()
	if got, err := x.Tick(); got != at(count, x.Node()) || err != api.OK || x.Clock() != count {
		t.Errorf("Tick: %d %d, clock %d, not of %d", got, err, x.Clock(), count)
	}
}

// isOver tells whether no tick is told, however often it is asked for.
func isOver(t *testing.T, x *index.Index) {
	t.Helper()
	for range 3 {
		if got, err := x.Tick(); got != 0 || err != api.ErrOver || x.Clock() != lastClock {
			t.Errorf("Tick: %d %d, clock %d", got, err, x.Clock())
		}
	}
}

func learn(t *testing.T, x *index.Index, want api.Errno, l ...api.Cmd) {
	t.Helper()
	if err := x.Learn(l...); err != want {
		t.Errorf("Learn(%s): %d, not %d", short(l), err, want)
	}
}

func put(t *testing.T, x *index.Index, want api.Errno, e entry.Entry) {
	t.Helper()
	if err := x.Put(e); err != want {
		t.Errorf("Put(%s): %d, not %d", short(e), err, want)
	}
}

// TestNew is P13.1 (X1): of each replica, of clocks at their edges, without entries.
func TestNew(t *testing.T) {
	for node := range replicas {
		for _, clock := range []int{0, 1, 2, 300, lastClock - 1, lastClock} {
			x := made(t, node, clock)
			if x.Node() != node {
				t.Errorf("Node: %d, not %d", x.Node(), node)
			}
			has(t, x, clock)
			changed(t, x)
			if clock < lastClock {
				ticks(t, x, clock+1)
			} else {
				isOver(t, x)
			}
		}
	}
}

// TestNewMayNotBe is P13.1 (X1): ErrArg of a replica or a clock that may not be, with entries and without.
func TestNewMayNotBe(t *testing.T) {
	nodes := []int{math.MinInt, -1 << 32, -9, -1, 9, 10, 15, 16, 1 << 32, math.MaxInt}
	clocks := []int{math.MinInt, -1 << 32, -65536, -2, -1, lastClock + 1, lastClock + 2, 1 << 32, math.MaxInt}
	for _, l := range [][]entry.Entry{nil, {}, {bare(place(17, 0))}, {full(place(17, 0)), bare(place(33, 0))}} {
		for _, node := range nodes {
			refused(t, api.ErrArg, node, 0, l...)
			refused(t, api.ErrArg, node, lastClock, l...)
			for _, clock := range clocks {
				refused(t, api.ErrArg, node, clock, l...)
			}
		}
		for _, clock := range clocks {
			refused(t, api.ErrArg, 0, clock, l...)
			refused(t, api.ErrArg, 8, clock, l...)
		}
	}
}

// permuted are all orders of entries.
func permuted(l []entry.Entry) [][]entry.Entry {
	if len(l) == 0 {
		return [][]entry.Entry{nil}
	}
	var all [][]entry.Entry
	for i, e := range l {
		for _, rest := range permuted(slices.Delete(slices.Clone(l), i, i+1)) {
			all = append(all, append(rest, e))
		}
	}
	return all
}

// TestNewEntries is P13.1 (X1): with entries in any order; none of them is one that changed.
func TestNewEntries(t *testing.T) {
	l := list(bare(place(16, 3)), full(place(17, 0)), reserved(bare(cancel(24, 1, 17)), at(1, 0), at(12, 8)), done(bare(amend(32, 0, 17, 4)), value(at(11, 1))), freed(bare(place(16*mostSeq+8, 2))))
	for n := range len(l) + 1 {
		for _, some := range permuted(l[:n]) {
			x := made(t, 4, 3, some...)
			has(t, x, []int{3, 3, 9, 12, 12, 12}[n], l[:n]...)
			changed(t, x)
		}
	}
}

// TestNewWrong is P13.1 (X1): ErrArg of an entry that may not be, for each of its parts, alone and among others, at each
// place.
func TestNewWrong(t *testing.T) {
	good := list(bare(place(18, 0)), full(place(34, 1)), bare(place(50, 2)))
	for _, e := range wrong() {
		refused(t, api.ErrArg, 0, 0, e)
		for i := range len(good) + 1 {
			refused(t, api.ErrArg, 8, lastClock, slices.Insert(slices.Clone(good), i, e)...)
		}
	}
}

// TestNewTwice is P13.1 (X1): ErrTwice, if a name stands twice, with one entry, or two, of one command, or two; with one
// that may not be ErrArg, wherever that stands.
func TestNewTwice(t *testing.T) {
	c := place(17, 0)
	other := bare(place(33, 0))
	for _, a := range list(bare(c), full(c), freed(bare(c))) {
		for _, b := range list(bare(c), full(c), bare(cancel(17, 0, 33)), bare(place(17, 1)), full(place(17, 3))) {
			for _, l := range permuted(list(a, b, other)) {
				refused(t, api.ErrTwice, 1, 5, l...)
				refused(t, api.ErrArg, -1, 5, l...)
				refused(t, api.ErrArg, 9, 5, l...)
				refused(t, api.ErrArg, 1, -1, l...)
				refused(t, api.ErrArg, 1, lastClock+1, l...)
			}
			refused(t, api.ErrTwice, 1, 5, a, b)
			refused(t, api.ErrTwice, 1, 5, a, b, a)
			for _, bad := range list(bare(place(50, 4)), done(bare(c), value(0)), reserved(bare(c), 0, 16), entry.Entry{}) {
				for _, l := range permuted(list(a, b, bad)) {
					refused(t, api.ErrArg, 1, 5, l...)
				}
			}
		}
	}
}

// TestNewSees is P13.1 (X1): each entry's HIGH is seen, and the T of its value, if it is done; not what it voted for, nor
// what it accepted.
func TestNewSees(t *testing.T) {
	c := place(17, 0)
	for _, x := range []struct {
		e     entry.Entry
		count int
	}{
		{bare(c), 0},
		{reserved(bare(c), at(3, 8), at(3, 8)), 3},
		{reserved(bare(c), at(3, 8), at(200, 0)), 200},
		{reserved(bare(c), leastStamp, leastStamp), 1},
		{reserved(bare(c), leastStamp, lastStamp), lastClock},
		{voted(bare(c), value(at(9, 1))), 0},
		{voted(reserved(bare(c), at(2, 0), at(4, 0)), value(at(9, 1), place(33, 0))), 4},
		{accepted(bare(c), 3, value(at(9, 1))), 0},
		{accepted(reserved(bare(c), at(2, 0), at(4, 0)), 3, value(lastStamp)), 4},
		{accepted(voted(freed(bare(c)), value(lastStamp)), 5, value(lastStamp)), 0},
		{done(bare(c), value(at(7, 3))), 7},
		{done(bare(c), value(lastStamp)), lastClock},
		{done(reserved(bare(c), at(2, 0), at(4, 0)), value(at(3, 0))), 4},
		{done(reserved(bare(c), at(2, 0), at(4, 0)), value(at(5, 0))), 5},
		{done(accepted(voted(bare(c), value(at(90, 0))), 2, value(at(80, 0))), value(at(5, 0))), 5},
		{full(c), 9},
	} {
		for _, clock := range []int{0, 1, 2, 3, 4, 6, 300, lastClock} {
			want := max(clock, x.count)
			has(t, made(t, 5, clock, x.e), want, x.e)
			more := list(x.e, done(bare(place(33, 0)), value(at(6, 2))), reserved(bare(place(49, 3)), leastStamp, at(2, 2)))
			has(t, made(t, 5, clock, more...), max(want, 6), more...)
			if y := made(t, 5, clock, x.e); want < lastClock {
				ticks(t, y, want+1)
			} else {
				isOver(t, y)
			}
		}
	}
}

// noStamps are numbers that are no timestamps.
func noStamps() []int {
	return []int{
		math.MinInt, math.MinInt + 16, -1 << 32, -16*65535 - 8, -17, -16, -1, 0, 1, 8, 15, 25, 31, 16*300 + 9, 16*300 + 15, 16*65535 + 9,
		16*65535 + 15, 16 * 65536, 16*65536 + 8, 16 * 70000, 1<<32 + 16, math.MaxInt - 15, math.MaxInt,
	}
}

// TestSee is P13.1 (X1): what is no timestamp, those of a lesser count, the same one, a greater one, of each replica.
func TestSee(t *testing.T) {
	e := full(place(17, 0))
	for node := range replicas {
		for _, clock := range []int{9, 10, 300, lastClock - 1, lastClock} {
			x := made(t, node, clock, e)
			for _, s := range noStamps() {
				x.See(s)
				has(t, x, clock, e)
			}
			for of := range replicas {
				for _, count := range []int{1, 2, clock - 1, clock} {
					x.See(at(count, of))
					has(t, x, clock, e)
				}
			}
			for of := range replicas {
				for _, count := range []int{clock + 1, clock + 2, 4000, lastClock - 1, lastClock} {
					x := made(t, node, clock, e)
					x.See(at(min(count, lastClock), of))
					want := max(clock, min(count, lastClock))
					has(t, x, want, e)
					x.See(at(clock, of))
					x.See(0)
					has(t, x, want, e)
					changed(t, x)
				}
			}
		}
	}
}

// TestTick is P13.1 (X1): a count more each time, of the replica itself, behind New, behind what was seen, and what was
// put.
func TestTick(t *testing.T) {
	for node := range replicas {
		x := made(t, node, 0)
		for count := 1; count < 20; count++ {
			ticks(t, x, count)
		}
		x.See(at(19, 8))
		ticks(t, x, 20)
		x.See(at(5, 0))
		x.See(at(21, 15))
		ticks(t, x, 21)
		x.See(at(40, (node+1)%replicas))
		ticks(t, x, 41)
		ticks(t, x, 42)
		put(t, x, api.OK, reserved(bare(place(17, 0)), at(1, 1), at(99, 8)))
		ticks(t, x, 100)
		learn(t, x, api.OK, place(33, 0))
		ticks(t, x, 101)
		x.See(at(lastClock-2, 0))
		ticks(t, x, lastClock-1)
		ticks(t, x, lastClock)
		isOver(t, x)
		has(t, x, lastClock, reserved(bare(place(17, 0)), at(1, 1), at(99, 8)), bare(place(33, 0)))
		changed(t, x, 17, 33)
	}
}

// TestTickOver is P13.1 (X1): at the greatest count ErrOver and nothing, again and again, however it came there; nothing
// changes, and the other calls go on.
func TestTickOver(t *testing.T) {
	e := bare(place(17, 0))
	seen := made(t, 3, 7, e)
	seen.See(at(lastClock, 0))
	ticked := made(t, 3, lastClock-1, e)
	ticks(t, ticked, lastClock)
	for _, x := range []*index.Index{made(t, 3, lastClock, e), made(t, 0, 0, reserved(e, 16, lastStamp)), seen, ticked} {
		all := x.All()
		isOver(t, x)
		x.See(lastStamp)
		x.See(16)
		isOver(t, x)
		has(t, x, lastClock, all...)
		changed(t, x)
		put(t, x, api.OK, done(e, value(lastStamp)))
		learn(t, x, api.OK, place(16, 0))
		isOver(t, x)
		has(t, x, lastClock, bare(place(16, 0)), done(e, value(lastStamp)))
		changed(t, x, 16, 17)
	}
}

// TestLearn is P13.1 (X1): of none, of one, of several in any order, of one twice, of what it has: an entry that is there
// stays as it is, and hasn't changed.
func TestLearn(t *testing.T) {
	a, b, c := place(17, 0), cancel(33, 0, 17), amend(48, 2, 17, 9)
	x := made(t, 1, 5)
	learn(t, x, api.OK)
	learn(t, x, api.OK, cmds()...)
	has(t, x, 5)
	changed(t, x)
	learn(t, x, api.OK, b)
	has(t, x, 5, bare(b))
	changed(t, x, 33)
	learn(t, x, api.OK, b)
	learn(t, x, api.OK, b, b)
	has(t, x, 5, bare(b))
	changed(t, x)
	learn(t, x, api.OK, c, b, a, c)
	has(t, x, 5, bare(a), bare(b), bare(c))
	changed(t, x, 17, 48)
	learn(t, x, api.OK, a, b, c)
	changed(t, x)
	for _, e := range list(full(b), done(bare(b), value(at(3, 3), a)), freed(bare(b)), reserved(bare(b), 16, 18)) {
		x := made(t, 1, 20, e)
		learn(t, x, api.OK, b, a, b)
		has(t, x, 20, bare(a), e)
		changed(t, x, 17)
	}
}

// TestLearnWrong is P13.1 (X1): ErrArg of a command that may not be, alone and among others, at each place; nothing of
// the others is learned.
func TestLearnWrong(t *testing.T) {
	has18 := full(place(18, 0))
	x := made(t, 1, 9, has18)
	good := cmds(place(18, 0), place(34, 1), cancel(50, 1, 34))
	for _, c := range wrongCmds() {
		learn(t, x, api.ErrArg, c)
		for i := range len(good) + 1 {
			learn(t, x, api.ErrArg, slices.Insert(slices.Clone(good), i, c)...)
		}
		// Also if one of another command is among them, ahead of it, or behind.
		learn(t, x, api.ErrArg, place(18, 1), c)
		learn(t, x, api.ErrArg, c, place(18, 1))
		learn(t, x, api.ErrArg, place(34, 0), c, place(34, 1))
	}
	has(t, x, 9, has18)
	changed(t, x)
	learn(t, x, api.OK, good...)
	changed(t, x, 34, 50)
}

// TestLearnTwice is P13.1 (X1): ErrTwice of another command of a name that it has, that other one differing in each part,
// and of two of one name that are not the same; nothing is learned then.
func TestLearnTwice(t *testing.T) {
	a := amend(33, 1, 17, 9)
	others := cmds(amend(33, 0, 17, 9), amend(33, 1, 16, 9), amend(33, 1, 17, 8), cancel(33, 1, 17), place(33, 1), place(33, 0))
	for _, e := range list(bare(a), full(a)) {
		x := made(t, 1, 9, e)
		for _, b := range others {
			learn(t, x, api.ErrTwice, b)
			learn(t, x, api.ErrTwice, a, b)
			learn(t, x, api.ErrTwice, b, a)
			learn(t, x, api.ErrTwice, place(16, 0), b, place(49, 0))
			learn(t, x, api.ErrTwice, place(16, 0), place(49, 0), b)
		}
		has(t, x, 9, e)
		changed(t, x)
	}
	x := made(t, 1, 9, full(place(17, 0)))
	for _, b := range others {
		learn(t, x, api.ErrTwice, a, b)
		learn(t, x, api.ErrTwice, b, a)
		learn(t, x, api.ErrTwice, a, a, b)
		learn(t, x, api.ErrTwice, b, place(17, 0), place(49, 2), a)
	}
	has(t, x, 9, full(place(17, 0)))
	changed(t, x)
	learn(t, x, api.OK, a, place(17, 0), a)
	has(t, x, 9, full(place(17, 0)), bare(a))
	changed(t, x, 33)
}

// TestGet is P13.1 (X1): of names that it has, and of such as it has not, or that are none.
func TestGet(t *testing.T) {
	l := list(bare(place(16, 0)), full(place(33, 3)), freed(bare(place(16*mostSeq+8, 0))))
	x := made(t, 0, 0, l...)
	has(t, x, 9, l...)
	for _, y := range []*index.Index{x, made(t, 0, 0)} {
		for _, id := range []int{math.MinInt, -33, -16, -1, 0, 1, 15, 17, 25, 32, 34, 48, 16*mostSeq + 7, 16 * (mostSeq + 1), 1<<32 + 16, math.MaxInt} {
			if e, ok := y.Get(id); ok || !entry.Same(e, entry.Entry{}) {
				t.Errorf("Get(%d): %s %t", id, short(e), ok)
			}
		}
	}
	if e, ok := made(t, 0, 0).Get(16); ok || !entry.Same(e, entry.Entry{}) {
		t.Errorf("Get: %s %t", short(e), ok)
	}
	changed(t, x)
}

// TestPut is P13.1 (X1): a new entry, one again as it is, with more, and with less.
func TestPut(t *testing.T) {
	c := place(33, 0)
	x := made(t, 2, 0, bare(place(34, 0)))
	put(t, x, api.OK, bare(c))
	has(t, x, 0, bare(c), bare(place(34, 0)))
	changed(t, x, 33)
	clock := 0
	for _, e := range list(bare(c), freed(bare(c)), reserved(bare(c), at(1, 0), at(2, 0)), full(c), full(c), bare(c), done(bare(c), value(at(3, 3)))) {
		put(t, x, api.OK, e)
		clock = max(clock, e.High/16)
		has(t, x, clock, e, bare(place(34, 0)))
		changed(t, x, 33)
	}
	put(t, x, api.OK, full(place(16, 1)))
	has(t, x, 9, full(place(16, 1)), done(bare(c), value(at(3, 3))), bare(place(34, 0)))
	changed(t, x, 16)
}

// TestPutWrong is P13.1 (X1): ErrArg of an entry that may not be, also of another command of a name that it has; nothing
// is put, seen, or changed.
func TestPutWrong(t *testing.T) {
	for _, had := range list(bare(place(17, 0)), full(place(17, 3)), bare(place(18, 0))) {
		x := made(t, 2, 9, had)
		for _, e := range wrong() {
			put(t, x, api.ErrArg, e)
		}
		e := reserved(bare(place(17, 1)), 16, lastStamp)
		e.Promised = -1
		put(t, x, api.ErrArg, e)
		has(t, x, 9, had)
		changed(t, x)
	}
}

// TestPutTwice is P13.1 (X1): ErrTwice, if there is one of another command, that differs in any part; nothing is put,
// seen, or changed.
func TestPutTwice(t *testing.T) {
	a := amend(33, 1, 17, 9)
	x := made(t, 1, 9, full(a))
	for _, b := range cmds(amend(33, 0, 17, 9), amend(33, 1, 16, 9), amend(33, 1, 17, 8), cancel(33, 1, 17), place(33, 1), place(33, 0)) {
		put(t, x, api.ErrTwice, bare(b))
		put(t, x, api.ErrTwice, full(b))
		put(t, x, api.ErrTwice, done(reserved(bare(b), 16, lastStamp), value(lastStamp)))
	}
	has(t, x, 9, full(a))
	changed(t, x)
	learn(t, x, api.OK, place(17, 0))
	put(t, x, api.ErrTwice, full(place(17, 1)))
	put(t, x, api.OK, full(place(17, 0)))
	has(t, x, 9, full(place(17, 0)), full(a))
	changed(t, x, 17)
}

// TestPutSees is P13.1 (X1): an entry's HIGH is seen, its fast and its accepted value's T, and its value's, each of them.
func TestPutSees(t *testing.T) {
	c := place(17, 0)
	parts := []func(s int) entry.Entry{
		func(s int) entry.Entry { return reserved(bare(c), s, s) },
		func(s int) entry.Entry { return reserved(bare(c), 16, s) },
		func(s int) entry.Entry { return voted(bare(c), value(s)) },
		func(s int) entry.Entry { return voted(reserved(bare(c), 16, 16), value(s, place(33, 0))) },
		func(s int) entry.Entry { return accepted(bare(c), 1, value(s)) },
		func(s int) entry.Entry { return accepted(reserved(bare(c), 16, 16), mostBallot, value(s)) },
		func(s int) entry.Entry { return done(bare(c), value(s)) },
		func(s int) entry.Entry {
			return done(accepted(voted(reserved(bare(c), 16, 16), value(16)), 1, value(16)), value(s))
		},
		func(s int) entry.Entry {
			return done(accepted(voted(reserved(bare(c), 16, 16), value(s)), 1, value(16)), value(16))
		},
		func(s int) entry.Entry {
			return done(accepted(voted(reserved(bare(c), 16, 16), value(16)), 1, value(s)), value(16))
		},
	}
	for _, part := range parts {
		for _, clock := range []int{0, 1, 2, 3, 299, 300, lastClock} {
			for _, s := range []int{16, 18, at(2, 8), at(3, 0), at(300, 4), lastStamp} {
				x := made(t, 6, clock, bare(c))
				put(t, x, api.OK, part(s))
				want := max(clock, s/16)
				if part(s).Low > 0 {
					want = max(want, 1)
				}
				has(t, x, want, part(s))
				fresh := made(t, 6, clock)
				put(t, fresh, api.OK, part(s))
				has(t, fresh, want, part(s))
			}
		}
	}
	x := made(t, 6, 0)
	put(t, x, api.OK, freed(bare(c)))
	has(t, x, 0, freed(bare(c)))
	// A Put is of what it sees, also if what it puts then is less.
	put(t, x, api.OK, done(bare(c), value(at(5, 0))))
	put(t, x, api.OK, bare(c))
	has(t, x, 5, bare(c))
}

// TestAll is P13.1 (X1): all entries by names, rising, in whatever order, and by whatever calls they came.
func TestAll(t *testing.T) {
	l := list(full(place(16, 0)), bare(place(24, 1)), freed(bare(place(32, 0))), full(place(16*mostSeq, 3)))
	for i, some := range permuted(l) {
		x := made(t, 0, 0, some[:i%3]...)
		for _, e := range some[i%3:] {
			if i%2 == 0 {
				learn(t, x, api.OK, e.Cmd)
			}
			put(t, x, api.OK, e)
		}
		has(t, x, 9, l...)
	}
	if got := made(t, 0, 0).All(); len(got) != 0 {
		t.Errorf("%v", got)
	}
}

// every are commands of every name there is, all of one symbol.
func every(symbol int) []api.Cmd {
	var l []api.Cmd
	for seq := 1; seq <= mostSeq; seq++ {
		for home := range replicas {
			l = append(l, place(16*seq+home, symbol))
		}
	}
	return l
}

// TestEveryName is P13.1 (X1, X2): commands of every name there is are learned at once, more than a set has; all of them
// that come ahead are told.
func TestEveryName(t *testing.T) {
	l := every(2)
	back := slices.Clone(l)
	slices.Reverse(back)
	x := made(t, 0, 0)
	learn(t, x, api.OK, back...)
	var want []entry.Entry
	var ids []int
	for _, c := range l {
		want = append(want, bare(c))
		ids = append(ids, c.ID)
	}
	has(t, x, 0, want...)
	changed(t, x, ids...)
	for i, c := range l {
		put(t, x, api.OK, reserved(bare(c), at(i+1, 0), at(i+1, 0)))
	}
	changed(t, x, ids...)
	for _, n := range []int{0, 1, 2, mostPreds - 1, mostPreds, mostPreds + 1, len(l)} {
		if got := x.Pred(place(15, 2), at(n+1, 0)); !slices.Equal(got, l[:n]) {
			t.Errorf("%d ahead: %d told", n, len(got))
		}
		if got := x.Absent(place(15, 2), at(n+1, 0), nil, false); !slices.Equal(got, ids[:n]) {
			t.Errorf("%d ahead: %d absent", n, len(got))
		}
		if got := x.Holders(place(15, 2), at(n, 0)); !slices.Equal(got, ids[n:]) {
			t.Errorf("%d ahead: %d hold up", n, len(got))
		}
	}
}
