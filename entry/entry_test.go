package entry_test

import (
	"bytes"
	"encoding/binary"
	"fmt"
	"math"
	"math/rand"
	"reflect"
	"slices"
	"testing"

	"lictor/api"
	"lictor/cmd"
	"lictor/entry"
)

const (
	leastStamp = 16
	lastStamp  = 16*65535 + 8
	mostBallot = 1 << 20
	mostNumber = 1 << 40
	mostPreds  = 1024
	lastName   = 16*256 + 8
)

// place, cancel and amend are commands as short as can be.
func place(id, symbol int, side api.Side, price, qty int) api.Cmd {
	return api.Cmd{ID: id, Kind: api.Place, Symbol: symbol, Side: side, Price: price, Qty: qty}
}

func cancel(id, symbol, target int) api.Cmd {
	return api.Cmd{ID: id, Kind: api.Cancel, Symbol: symbol, Target: target}
}

func amend(id, symbol, target, qty int) api.Cmd {
	return api.Cmd{ID: id, Kind: api.Amend, Symbol: symbol, Target: target, Qty: qty}
}

// first are commands of the first n names, rising: a set, if they are not too many.
func first(n int) []api.Cmd {
	var l []api.Cmd
	for id := 16; len(l) < n; id++ {
		if id%16 <= 8 {
			l = append(l, place(id, id%4, api.Sell, id*200, id%100))
		}
	}
	return l
}

// some is a set of three.
func some() []api.Cmd {
	return []api.Cmd{place(18, 3, api.Sell, 300, 2), cancel(33, 1, 17), amend(lastName, 2, 33, 1<<20)}
}

// value is a value of a timestamp and commands, whether it may be or not.
func value(t int, p ...api.Cmd) api.Value { return api.Value{T: t, P: p} }

// notSets are commands that are no set, as their names don't rise, one may not be, or there are too many.
func notSets() [][]api.Cmd {
	a, b := place(17, 0, api.Buy, 5, 2), cancel(33, 0, 17)
	return [][]api.Cmd{{b, a}, {a, a}, {a, b, b}, {b, cancel(33, 0, 16)}, {{}}, {a, {ID: 34, Symbol: 4}}, first(mostPreds + 1)}
}

// badCmds are commands that may not be, whose numbers are from 0 to 2^40.
func badCmds() []api.Cmd {
	return []api.Cmd{
		{}, {ID: 15}, {ID: 25}, {ID: lastName + 1}, {ID: mostNumber}, {ID: 17, Kind: 3}, {ID: 17, Symbol: 4}, {ID: 17, Target: 33},
		{ID: 17, Side: 2}, {ID: 17, Price: 1<<20 + 1}, {ID: 17, Qty: 1<<20 + 1}, {ID: 17, Kind: api.Cancel},
		{ID: 17, Kind: api.Cancel, Target: 33, Qty: 1}, {ID: 17, Kind: api.Amend, Target: 33, Price: 1},
	}
}

// worse are commands that may not be, with a number below 0.
func worse() []api.Cmd {
	return []api.Cmd{{ID: -17}, {ID: 17, Kind: -1}, {ID: 17, Symbol: -1}, {ID: 17, Target: -1}, {ID: 17, Side: -1}, {ID: 17, Price: -1}, {ID: 17, Qty: -1}}
}

// goodValues are values with a timestamp, and a set; badValues are without the one or the other.
func goodValues() []api.Value {
	return []api.Value{value(leastStamp), value(lastStamp, some()...), value(56, some()[:2]...), value(72, first(20)...), {T: 24, P: []api.Cmd{}}}
}

func badValues() []api.Value {
	l := []api.Value{{}, value(0, some()...), value(-1), value(15), value(25, some()...), value(lastStamp + 1), value(mostNumber), value(math.MinInt), value(math.MaxInt)}
	for _, p := range notSets() {
		l = append(l, value(56, p...))
	}
	return l
}

// ordinary is the command of most entries here.
func ordinary() api.Cmd { return place(17, 0, api.Buy, 5, 2) }

// bare is an entry with nothing else, full one with something of all that one can have, but that it isn't done, nor
// freed.
func bare() entry.Entry { return entry.Entry{Cmd: ordinary()} }

func full() entry.Entry {
	return entry.Entry{
		Cmd: ordinary(), Promised: 300, Low: 33, High: 1000, F: value(35, some()[:2]...), AB: 200, A: value(40, some()[1:]...),
	}
}

// done is an entry with all of another one, that is done with a value.
func done(e entry.Entry, v api.Value) entry.Entry {
	e.Done, e.V = true, v
	return e
}

// kinds are entries that may be, of which each has something else.
func kinds() []entry.Entry {
	freed, promised, reserved, voted, accepted := bare(), bare(), bare(), bare(), bare()
	freed.Freed = true
	promised.Promised = mostBallot
	reserved.Low, reserved.High = leastStamp, lastStamp
	voted.Low, voted.High, voted.F = 56, 56, value(56)
	accepted.Promised, accepted.AB, accepted.A, accepted.Low, accepted.High = 1, 1, value(48, some()...), 48, 48
	all := done(full(), value(48, some()...))
	all.Freed = true
	return []entry.Entry{bare(), full(), freed, promised, reserved, voted, accepted, done(bare(), value(56, some()...)), all}
}

// bytesOf is the bytes of numbers as another package writes them, whatever numbers from 0 on they are.
func bytesOf(n ...int) []byte {
	b := []byte{}
	for _, x := range n {
		b = binary.AppendUvarint(b, uint64(x))
	}
	return b
}

func cmdBytes(c api.Cmd) []byte {
	return bytesOf(c.ID, int(c.Kind), c.Symbol, c.Target, int(c.Side), c.Price, c.Qty)
}

func valueBytes(v api.Value) []byte {
	b := bytesOf(v.T, len(v.P))
	for _, c := range v.P {
		b = append(b, cmdBytes(c)...)
	}
	return b
}

// withMarks is the bytes of an entry whose numbers are from 0 on, whether it may be or not, with any numbers as Freed
// and Done.
func withMarks(e entry.Entry, freed, done int) []byte {
	return slices.Concat(cmdBytes(e.Cmd), bytesOf(e.Promised, e.Low, e.High), valueBytes(e.F), bytesOf(e.AB), valueBytes(e.A), bytesOf(freed, done), valueBytes(e.V))
}

func bytesOfEntry(e entry.Entry) []byte {
	mark := map[bool]int{true: 1}
	return withMarks(e, mark[e.Freed], mark[e.Done])
}

// numbered tells whether all numbers of an entry are such that there are bytes for each of them.
func numbered(e entry.Entry) bool {
	l := []int{e.Promised, e.Low, e.High, e.F.T, e.AB, e.A.T, e.V.T}
	for _, c := range slices.Concat([]api.Cmd{e.Cmd}, e.F.P, e.A.P, e.V.P) {
		l = append(l, c.ID, int(c.Kind), c.Symbol, c.Target, int(c.Side), c.Price, c.Qty)
	}
	return slices.Min(l) >= 0
}

// own is an entry with the same parts, in memory of its own, and nil for each list without elements.
func own(e entry.Entry) entry.Entry {
	for _, p := range []*[]api.Cmd{&e.F.P, &e.A.P, &e.V.P} {
		*p = append([]api.Cmd(nil), *p...)
	}
	return e
}

// alike tells whether two entries have the same parts, a list without elements being one with nil.
func alike(a, b entry.Entry) bool { return reflect.DeepEqual(own(a), own(b)) }

// short is how something is printed, but no more than its beginning, as a set may be long.
func short(x any) string {
	s := fmt.Sprintf("%+v", x)
	return s[:min(len(s), 500)]
}

// check looks at all that is told of an entry that may be, or may not be.
func check(t *testing.T, e entry.Entry, may bool) {
	t.Helper()
	if entry.Right(e) != may {
		t.Fatalf("Right(%s): not %t", short(e), may)
	}
	b, err := entry.Encode(e)
	if may && (err != api.OK || !bytes.Equal(b, bytesOfEntry(e))) {
		t.Fatalf("Encode(%s): %v %d", short(e), b, err)
	}
	if !may && (err != api.ErrArg || len(b) != 0) {
		t.Fatalf("Encode(%s): %v %d", short(e), b, err)
	}
	if !numbered(e) {
		return
	}
	got, err := entry.Decode(bytesOfEntry(e))
	if may && (err != api.OK || !entry.Same(got, e) || !alike(got, e)) {
		t.Fatalf("Decode of %s: %s %d", short(e), short(got), err)
	}
	if !may && (err != api.ErrForm || !alike(got, entry.Entry{})) {
		t.Fatalf("Decode of %s: %s %d", short(e), short(got), err)
	}
}

// TestNew is P6.1 (N1): an entry with its command alone; of a command that may not be none.
func TestNew(t *testing.T) {
	for _, c := range append(some(), first(20)...) {
		if e, err := entry.New(c); !alike(e, entry.Entry{Cmd: c}) || err != api.OK || !entry.Right(e) {
			t.Errorf("New(%v): %s %d", c, short(e), err)
		}
	}
	for _, c := range append(badCmds(), worse()...) {
		if e, err := entry.New(c); !alike(e, entry.Entry{}) || err != api.ErrArg {
			t.Errorf("New(%v): %s %d", c, short(e), err)
		}
	}
}

// TestBytes is P6.1 (N4): bytes that are written out here.
func TestBytes(t *testing.T) {
	c := api.Cmd{ID: 17, Price: 5, Qty: 2}
	for _, x := range []struct {
		e    entry.Entry
		want []byte
	}{
		{entry.Entry{Cmd: c}, []byte{17, 0, 0, 0, 0, 5, 2, 0, 0, 0, 0, 0, 0, 0, 0, 0, 0, 0, 0}},
		{
			entry.Entry{Cmd: c, Promised: 3, Low: 16, High: 300 + 4, F: api.Value{T: 18, P: []api.Cmd{cancel(33, 1, 17)}}, AB: 2, A: api.Value{T: 48}, Freed: true, Done: true, V: api.Value{T: 49, P: []api.Cmd{c}}},
			[]byte{17, 0, 0, 0, 0, 5, 2, 3, 16, 176, 2, 18, 1, 33, 1, 1, 17, 0, 0, 0, 2, 48, 0, 1, 1, 49, 1, 17, 0, 0, 0, 0, 5, 2},
		},
		{entry.Entry{Cmd: c, Freed: true}, []byte{17, 0, 0, 0, 0, 5, 2, 0, 0, 0, 0, 0, 0, 0, 0, 1, 0, 0, 0}},
		{entry.Entry{Cmd: c, Done: true, V: api.Value{T: 16}}, []byte{17, 0, 0, 0, 0, 5, 2, 0, 0, 0, 0, 0, 0, 0, 0, 0, 1, 16, 0}},
		{entry.Entry{Cmd: c, Promised: 1 << 20}, []byte{17, 0, 0, 0, 0, 5, 2, 128, 128, 64, 0, 0, 0, 0, 0, 0, 0, 0, 0, 0, 0}},
	} {
		if b, err := entry.Encode(x.e); !bytes.Equal(b, x.want) || err != api.OK {
			t.Errorf("%s: %v %d", short(x.e), b, err)
		}
		if e, err := entry.Decode(x.want); !alike(e, x.e) || err != api.OK {
			t.Errorf("%v: %s %d", x.want, short(e), err)
		}
	}
}

// TestRight is P6.1 (N1, N4): entries that may be, of all kinds, of each command that may be, and of what may not be.
func TestRight(t *testing.T) {
	for _, e := range kinds() {
		check(t, e, true)
		for _, c := range append(some(), first(5)...) {
			e.Cmd = c
			check(t, e, true)
		}
		for _, c := range append(badCmds(), worse()...) {
			e.Cmd = c
			check(t, e, false)
		}
	}
}

// TestBallots is P6.1 (N1, N4): both ballots at their edges and beyond each; one of what was accepted without that, and
// that without one.
func TestBallots(t *testing.T) {
	for _, b := range []int{math.MinInt, -1, 0, 1, 2, mostBallot - 1, mostBallot, mostBallot + 1, 1 << 32, mostNumber, math.MaxInt} {
		for _, e := range kinds() {
			e.Promised = b
			check(t, e, 0 <= b && b <= mostBallot)
		}
		for _, v := range goodValues() {
			e := full()
			e.AB, e.A = b, v
			check(t, e, 1 <= b && b <= mostBallot)
			e.AB, e.A = b, api.Value{}
			check(t, e, b == 0)
		}
	}
}

// isStamp tells whether t is a timestamp, by its own rule.
func isStamp(t int) bool { return t >= leastStamp && t <= lastStamp && t%16 <= 8 }

// TestReserved is P6.1 (N1, N4): LOW and HIGH that are 0, one of them alone, LOW above HIGH, what is no timestamp.
func TestReserved(t *testing.T) {
	times := []int{math.MinInt, -16, -1, 0, 1, 15, 16, 17, 24, 25, 32, 56, lastStamp, lastStamp + 1, 1 << 20, mostNumber, math.MaxInt}
	for _, low := range times {
		for _, high := range times {
			for _, e := range kinds() {
				e.Low, e.High = low, high
				check(t, e, low == 0 && high == 0 || isStamp(low) && isStamp(high) && low <= high)
			}
		}
	}
}

// TestValues is P6.1 (N1, N4): each of the three values that is right, or not, or none, where it must be, and where it
// must not.
func TestValues(t *testing.T) {
	none := func(v api.Value) bool { return v.T == 0 && len(v.P) == 0 }
	right := append(goodValues(), value(56, first(mostPreds-1)...), value(56, first(mostPreds)...))
	for i, v := range slices.Concat(right, badValues()) {
		good := i < len(right)
		for _, e := range kinds() {
			fast, accepted, finished := e, e, e
			fast.F, accepted.A, finished.V = v, v, v
			check(t, fast, good || none(v))
			check(t, accepted, e.AB > 0 && good || e.AB == 0 && none(v))
			check(t, finished, e.Done && good || !e.Done && none(v))
		}
	}
}

// TestMarks is P6.1 (N4): a Freed or a Done that is neither 0 nor 1, and a Done that its value doesn't fit.
func TestMarks(t *testing.T) {
	for _, e := range kinds() {
		for _, freed := range []int{0, 1, 2, 127, 128, 129, 256, 257, 1 << 32, 1<<32 + 1, mostNumber} {
			for _, done := range []int{0, 1, 2, 127, 128, 129, 256, 257, 1 << 32, 1<<32 + 1, mostNumber} {
				want := api.ErrForm
				if freed <= 1 && (done == 1 && e.Done || done == 0 && !e.Done) {
					want = api.OK
				}
				got, err := entry.Decode(withMarks(e, freed, done))
				if err != want || err != api.OK && !alike(got, entry.Entry{}) || err == api.OK && (got.Freed != (freed == 1) || got.Done != (done == 1)) {
					t.Errorf("%s with %d and %d: %s %d", short(e), freed, done, short(got), err)
				}
			}
		}
	}
}

// wrong tells whether it is told that bytes are no entry's, and nothing beside.
func wrong(t *testing.T, b []byte) {
	t.Helper()
	if e, err := entry.Decode(b); err != api.ErrForm || !alike(e, entry.Entry{}) {
		t.Fatalf("%v: %s %d", b, short(e), err)
	}
}

// TestNoBytes is P6.1 (N4): bytes that end in the middle, that have more behind the entry's own, that begin with
// others, with a number of more bytes than it needs, or of too many.
func TestNoBytes(t *testing.T) {
	for _, e := range kinds() {
		b := bytesOfEntry(e)
		for n := range b {
			wrong(t, b[:n])
			wrong(t, slices.Concat(b[:n], []byte{b[n] | 128, 0}, b[n+1:]))
			wrong(t, slices.Concat(b[:n], slices.Repeat([]byte{255}, 9), b[n:]))
			wrong(t, slices.Concat(b[:n], slices.Repeat([]byte{255}, len(b)-n)))
		}
		for _, more := range [][]byte{{0}, {1}, {128}, {0, 0}, b, make([]byte, 1000)} {
			wrong(t, slices.Concat(b, more))
		}
		wrong(t, slices.Concat([]byte{0}, b))
		wrong(t, slices.Concat([]byte{1}, b))
		wrong(t, b[1:])
	}
	for _, b := range [][]byte{nil, {}, {0}, {17}, {128}, make([]byte, 18), make([]byte, 19), make([]byte, 40), slices.Repeat([]byte{16}, 40), slices.Repeat([]byte{255}, 100)} {
		wrong(t, b)
	}
}

// changes are what makes an entry another one, in one part alone; some do nothing to one that has no such part.
func changes() []func(*entry.Entry) {
	l := []func(*entry.Entry){
		func(e *entry.Entry) { e.Promised++ }, func(e *entry.Entry) { e.Low++ }, func(e *entry.Entry) { e.High-- }, func(e *entry.Entry) { e.AB++ },
		func(e *entry.Entry) { e.Freed = !e.Freed }, func(e *entry.Entry) { e.Done = !e.Done },
	}
	cmds := []func(*api.Cmd){
		func(c *api.Cmd) { c.ID++ }, func(c *api.Cmd) { c.Kind++ }, func(c *api.Cmd) { c.Symbol++ }, func(c *api.Cmd) { c.Target++ },
		func(c *api.Cmd) { c.Side++ }, func(c *api.Cmd) { c.Price-- }, func(c *api.Cmd) { c.Qty++ },
	}
	values := []func(*entry.Entry) *api.Value{
		func(e *entry.Entry) *api.Value { return &e.F }, func(e *entry.Entry) *api.Value { return &e.A }, func(e *entry.Entry) *api.Value { return &e.V },
	}
	for _, change := range cmds {
		l = append(l, func(e *entry.Entry) { change(&e.Cmd) })
		for _, part := range values {
			l = append(l, func(e *entry.Entry) {
				if p := part(e).P; len(p) > 0 {
					change(&p[len(p)-1])
				}
			})
		}
	}
	for _, part := range values {
		l = append(l, func(e *entry.Entry) { part(e).T++ }, func(e *entry.Entry) { v := part(e); v.P = v.P[:max(len(v.P), 1)-1] })
		l = append(l, func(e *entry.Entry) { v := part(e); v.P = append(v.P, ordinary()) }, func(e *entry.Entry) { slices.Reverse(part(e).P) })
	}
	return l
}

// TestSame is P6.1 (N1): an entry is the same as one with the same parts, in memory of its own, and as none with
// another part, whether it may be or not.
func TestSame(t *testing.T) {
	zero := entry.Entry{}
	for _, e := range append(kinds(), zero, entry.Entry{F: value(1, some()...), A: value(2, some()...), V: value(3, some()...)}) {
		var all []entry.Entry
		for _, change := range append(changes(), func(*entry.Entry) {}) {
			other := own(e)
			change(&other)
			all = append(all, other)
			if got := entry.Same(e, other); got != alike(e, other) || entry.Same(other, e) != got || !entry.Same(other, own(other)) {
				t.Errorf("Same(%s, %s): %t", short(e), short(other), got)
			}
		}
		for _, a := range all {
			for _, b := range all {
				if got := entry.Same(a, b); got != alike(a, b) {
					t.Errorf("Same(%s, %s): %t", short(a), short(b), got)
				}
			}
		}
	}
	for i, a := range kinds() {
		for j, b := range kinds() {
			if entry.Same(a, b) != (i == j) {
				t.Errorf("%d and %d", i, j)
			}
		}
	}
}

// changed tells whether what is told of an entry is another one, or, with an error, that one, and whether the one that
// it is of was left as it was.
func changed(t *testing.T, of entry.Entry, call func(entry.Entry) (entry.Entry, api.Errno), want entry.Entry, wrong api.Errno) {
	t.Helper()
	kept := own(of)
	got, err := call(of)
	if wrong != api.OK {
		want = kept
	}
	if err != wrong || !alike(got, want) {
		t.Fatalf("of %s: %s %d, not %s %d", short(kept), short(got), err, short(want), wrong)
	}
	if !alike(of, kept) {
		t.Fatalf("not left: %s, %s", short(kept), short(of))
	}
}

// TestPromise is P6.1 (N2): ballots at their edges, below what is promised, the same, above.
func TestPromise(t *testing.T) {
	numbers := []int{math.MinInt, -1, 0, 1, 2, 299, 300, 301, mostBallot - 1, mostBallot, mostBallot + 1, 1 << 32, math.MaxInt}
	for _, e := range kinds() {
		for _, promised := range []int{0, 1, 300, mostBallot} {
			for _, b := range numbers {
				e.Promised = promised
				want, wrong := e, api.OK
				switch {
				case b < 0 || b > mostBallot:
					wrong = api.ErrArg
				case b < promised:
					wrong = api.ErrStale
				}
				want.Promised = b
				changed(t, e, func(e entry.Entry) (entry.Entry, api.Errno) { return e.Promise(b) }, want, wrong)
			}
		}
	}
}

// TestReserve is P6.1 (N2): a timestamp of none that were reserved; one below LOW, that, between, HIGH, above; what is
// no timestamp.
func TestReserve(t *testing.T) {
	for _, x := range []struct {
		low, high, t, nowLow, nowHigh int
		wrong                         api.Errno
	}{
		{0, 0, 16, 16, 16, 0}, {0, 0, 56, 56, 56, 0}, {0, 0, lastStamp, lastStamp, lastStamp, 0},
		{40, 40, 40, 40, 40, 0}, {40, 40, 39, 39, 40, 0}, {40, 40, 48, 40, 48, 0},
		{40, 72, 16, 16, 72, 0}, {40, 72, 40, 40, 72, 0}, {40, 72, 48, 40, 72, 0}, {40, 72, 72, 40, 72, 0}, {40, 72, 80, 40, 80, 0}, {40, 72, lastStamp, 40, lastStamp, 0},
		{16, lastStamp, 56, 16, lastStamp, 0}, {16, lastStamp, 16, 16, lastStamp, 0}, {16, lastStamp, lastStamp, 16, lastStamp, 0},
		{40, 72, 0, 0, 0, 1}, {40, 72, 15, 0, 0, 1}, {40, 72, 57, 0, 0, 1}, {40, 72, lastStamp + 1, 0, 0, 1}, {40, 72, -16, 0, 0, 1}, {40, 72, math.MinInt, 0, 0, 1},
		{40, 72, math.MaxInt, 0, 0, 1}, {40, 72, 1 << 32, 0, 0, 1}, {0, 0, 0, 0, 0, 1}, {0, 0, 25, 0, 0, 1}, {0, 0, -1, 0, 0, 1},
	} {
		for _, e := range kinds() {
			e.Low, e.High = x.low, x.high
			want := e
			want.Low, want.High = x.nowLow, x.nowHigh
			changed(t, e, func(e entry.Entry) (entry.Entry, api.Errno) { return e.Reserve(x.t) }, want, x.wrong)
		}
	}
}

// reserve is LOW and HIGH as they are once t is reserved, too.
func reserve(e entry.Entry, t int) entry.Entry {
	times := []int{t}
	if e.High > 0 {
		times = append(times, e.Low, e.High)
	}
	e.Low, e.High = slices.Min(times), slices.Max(times)
	return e
}

// TestVote is P6.1 (N2): a fast value where there is none, the same one again, another one, and a value with no
// timestamp, or no set, whatever is there.
func TestVote(t *testing.T) {
	vote := func(v api.Value) func(entry.Entry) (entry.Entry, api.Errno) {
		return func(e entry.Entry) (entry.Entry, api.Errno) { return e.Vote(v) }
	}
	bad := badValues()
	for _, e := range kinds() {
		for _, had := range append(goodValues(), api.Value{}) {
			e.F = had
			for _, v := range bad {
				changed(t, e, vote(v), e, api.ErrArg)
			}
			for _, v := range goodValues() {
				switch {
				case had.T == 0:
					want := reserve(e, v.T)
					want.F = v
					changed(t, e, vote(v), want, api.OK)
				case had.T == v.T:
					// Not even its timestamp is reserved once more.
					changed(t, e, vote(value(v.T, slices.Clone(v.P)...)), e, api.OK)
				default:
					changed(t, e, vote(v), e, api.ErrTwice)
				}
			}
			if had.T > 0 {
				changed(t, e, vote(value(had.T, place(20, 0, api.Buy, 1, 1))), e, api.ErrTwice)
				changed(t, e, vote(value(80, had.P...)), e, api.ErrTwice)
			}
		}
	}
}

// TestAccept is P6.1 (N2): ballots at their edges, below what is promised, that, above; values that are right, or not,
// which is told ahead of a ballot that is over; whatever was accepted.
func TestAccept(t *testing.T) {
	numbers := []int{math.MinInt, -1, 0, 1, 2, 299, 300, 301, mostBallot - 1, mostBallot, mostBallot + 1, 1 << 32, math.MaxInt}
	values := slices.Concat(goodValues(), badValues())
	for _, e := range kinds() {
		for _, promised := range []int{0, 1, 300, mostBallot} {
			e.Promised = promised
			for _, b := range numbers {
				for i, v := range values {
					want, wrong := reserve(e, v.T), api.OK
					want.Promised, want.AB, want.A = b, b, v
					switch {
					case i >= len(goodValues()) || b < 1 || b > mostBallot:
						wrong = api.ErrArg
					case b < promised:
						wrong = api.ErrStale
					}
					changed(t, e, func(e entry.Entry) (entry.Entry, api.Errno) { return e.Accept(b, v) }, want, wrong)
				}
			}
		}
	}
}

// TestFree is P6.1 (N2): it is freed, also if it is already, or is done.
func TestFree(t *testing.T) {
	for _, e := range kinds() {
		want := e
		want.Freed = true
		changed(t, e, func(e entry.Entry) (entry.Entry, api.Errno) { return e.Free(), api.OK }, want, api.OK)
		changed(t, want, func(e entry.Entry) (entry.Entry, api.Errno) { return e.Free(), api.OK }, want, api.OK)
	}
}

// TestFinish is P6.1 (N2): a value where it isn't done, the same one again, another one, and a value with no timestamp,
// or no set, whether it is done or not. Nothing is reserved by it.
func TestFinish(t *testing.T) {
	finish := func(v api.Value) func(entry.Entry) (entry.Entry, api.Errno) {
		return func(e entry.Entry) (entry.Entry, api.Errno) { return e.Finish(v) }
	}
	bad := badValues()
	for _, e := range kinds() {
		e.Done, e.V = false, api.Value{}
		for _, v := range bad {
			changed(t, e, finish(v), e, api.ErrArg)
		}
		for _, had := range goodValues() {
			d := done(e, had)
			changed(t, e, finish(had), d, api.OK)
			changed(t, d, finish(value(had.T, slices.Clone(had.P)...)), d, api.OK)
			for _, v := range bad {
				changed(t, d, finish(v), d, api.ErrArg)
			}
			for _, v := range goodValues() {
				if v.T != had.T {
					changed(t, d, finish(v), d, api.ErrTwice)
				}
			}
			changed(t, d, finish(value(had.T, place(20, 0, api.Buy, 1, 1))), d, api.ErrTwice)
			changed(t, d, finish(value(80, had.P...)), d, api.ErrTwice)
		}
	}
}

// TestAhead is P6.1 (N3): of one that is done its value's T is held against a timestamp, of another one LOW, if there
// is one; what is equal is not ahead.
func TestAhead(t *testing.T) {
	reserved, never := bare(), bare()
	reserved.Low, reserved.High = 40, 72
	for _, x := range []struct {
		e      entry.Entry
		ahead  []int
		behind []int
	}{
		{never, nil, []int{16, 56, lastStamp}},
		{reserved, []int{41, 48, 71, 72, 73, lastStamp}, []int{16, 39, 40}},
		{done(reserved, value(56)), []int{64, 72, 80, lastStamp}, []int{16, 40, 48, 55, 56}},
		{done(reserved, value(24)), []int{32, 40, 48}, []int{16, 23, 24}},
		{done(reserved, value(88)), []int{96, lastStamp}, []int{40, 48, 72, 80, 87, 88}},
		{done(never, value(56)), []int{64, lastStamp}, []int{16, 55, 56}},
		{done(never, value(lastStamp)), nil, []int{16, lastStamp}},
	} {
		for _, e := range []entry.Entry{x.e, x.e.Free()} {
			for _, at := range x.ahead {
				if !e.Ahead(at) {
					t.Errorf("%s: not ahead of %d", short(e), at)
				}
			}
			for _, at := range x.behind {
				if e.Ahead(at) {
					t.Errorf("%s: ahead of %d", short(e), at)
				}
			}
		}
	}
}

// TestHolds is P6.1 (N3): one that is done holds up nothing, another one what is below HIGH; what is equal it doesn't.
func TestHolds(t *testing.T) {
	reserved, one := bare(), bare()
	reserved.Low, reserved.High = 40, 72
	one.Low, one.High = 56, 56
	for _, x := range []struct {
		e     entry.Entry
		holds []int
		not   []int
	}{
		{bare(), nil, []int{16, 56, lastStamp}},
		{reserved, []int{16, 39, 40, 41, 48, 71}, []int{72, 73, 80, lastStamp}},
		{one, []int{16, 55}, []int{56, 64}},
		{done(reserved, value(56)), nil, []int{16, 40, 48, 71, 72, 80}},
		{done(reserved, value(88)), nil, []int{16, 40, 56, 80, 88}},
		{done(bare(), value(56)), nil, []int{16, 48, 56, 64}},
	} {
		for _, e := range []entry.Entry{x.e, x.e.Free()} {
			for _, at := range x.holds {
				if !e.Holds(at) {
					t.Errorf("%s: doesn't hold up %d", short(e), at)
				}
			}
			for _, at := range x.not {
				if e.Holds(at) {
					t.Errorf("%s: holds up %d", short(e), at)
				}
			}
		}
	}
}

// someSet is a set, the same one for the same source.
func someSet(from *rand.Rand, most int) []api.Cmd {
	var l []api.Cmd
	for range from.Intn(most + 1) {
		l = append(l, someCmd(from))
	}
	slices.SortFunc(l, func(a, b api.Cmd) int { return a.ID - b.ID })
	return slices.CompactFunc(l, func(a, b api.Cmd) bool { return a.ID == b.ID })
}

func someCmd(from *rand.Rand) api.Cmd {
	id, _ := cmd.Name(1+from.Intn(256), from.Intn(9))
	target, _ := cmd.Name(1+from.Intn(256), from.Intn(9))
	few := func() int { return from.Intn(1<<20+1) >> from.Intn(20) }
	return []api.Cmd{place(id, from.Intn(4), api.Side(from.Intn(2)), few(), few()), cancel(id, from.Intn(4), target), amend(id, from.Intn(4), target, few())}[from.Intn(3)]
}

func someStamp(from *rand.Rand) int { return 16*(1+from.Intn(65535)>>from.Intn(16)) + from.Intn(9) }

func someBallot(from *rand.Rand) int { return from.Intn(mostBallot+1) >> from.Intn(21) }

func someValue(from *rand.Rand) api.Value { return value(someStamp(from), someSet(from, 4)...) }

// someEntry is an entry that may be, the same one for the same source: not just one that calls make of a new one.
func someEntry(from *rand.Rand) entry.Entry {
	e := entry.Entry{Cmd: someCmd(from), Promised: someBallot(from), Freed: from.Intn(2) > 0}
	if from.Intn(3) > 0 {
		a, b := someStamp(from), someStamp(from)
		e.Low, e.High = min(a, b), max(a, b)
	}
	if from.Intn(2) > 0 {
		e.F = someValue(from)
	}
	if from.Intn(2) > 0 {
		e.AB, e.A = max(1, someBallot(from)), someValue(from)
	}
	if from.Intn(3) == 0 {
		e.Done, e.V = true, someValue(from)
	}
	return e
}

// someCall is what one of the calls tells of an entry, which sometimes is an error. It draws from few values, so that
// the same one comes again.
func someCall(from *rand.Rand, e entry.Entry) (entry.Entry, api.Errno) {
	values := []api.Value{value(40), value(56, some()...), value(40, some()[:1]...), someValue(from), e.F, e.A, e.V, value(someStamp(from), ordinary(), ordinary()), value(57)}
	v := values[from.Intn(len(values))]
	b := []int{someBallot(from), e.Promised + from.Intn(5) - 1, e.Promised + from.Intn(5), mostBallot + 1}[from.Intn(4)]
	switch from.Intn(6) {
	case 0:
		return e.Promise(b)
	case 1:
		return e.Reserve(v.T)
	case 2:
		return e.Vote(v)
	case 3:
		return e.Accept(b, v)
	case 4:
		return e.Finish(v)
	}
	return e.Free(), api.OK
}

// lessOf tells what of an entry another one, that was made of it, has no more; nothing, if it only has more.
func lessOf(was, is entry.Entry) string {
	switch {
	case was.Cmd != is.Cmd:
		return "another command"
	case is.Promised < was.Promised:
		return "the ballot that was promised fell"
	case was.Low > 0 && is.Low > was.Low:
		return "LOW rose"
	case was.Low > 0 && is.Low == 0:
		return "LOW is gone"
	case is.High < was.High:
		return "HIGH fell"
	case was.F.T > 0 && !reflect.DeepEqual(was.F, is.F):
		return "another fast value"
	case was.AB > 0 && is.AB == 0:
		return "what was accepted is gone"
	case was.Freed && !is.Freed:
		return "freed no more"
	case was.Done && (!is.Done || !reflect.DeepEqual(was.V, is.V)):
		return "done no more, or with another one"
	}
	return ""
}

// TestOnlyMore is P6.2: whatever is done with an entry, it has only more; it may be, if it might ahead.
func TestOnlyMore(t *testing.T) {
	from := rand.New(rand.NewSource(21))
	told := map[api.Errno]int{}
	for round := range 6000 {
		e, err := entry.New(someCmd(from))
		if round%2 > 0 {
			e = someEntry(from)
		}
		if err != api.OK || !entry.Right(e) {
			t.Fatalf("%s %d", short(e), err)
		}
		for range 20 {
			next, err := someCall(from, e)
			told[err]++
			if less := lessOf(e, next); less != "" || !entry.Right(next) {
				t.Fatalf("%s, or may not be: %s, then %s", less, short(e), short(next))
			}
			if err != api.OK && !alike(e, next) {
				t.Fatalf("%d: %s, then %s", err, short(e), short(next))
			}
			e = next
		}
		check(t, e, true)
	}
	for _, err := range []api.Errno{api.OK, api.ErrArg, api.ErrTwice, api.ErrStale} {
		if told[err] < 1000 {
			t.Errorf("%d told only %d times", err, told[err])
		}
	}
}

// TestThereAndBack is P6.1 (N4): an entry is decoded from its bytes.
func TestThereAndBack(t *testing.T) {
	from := rand.New(rand.NewSource(22))
	for range 5000 {
		check(t, someEntry(from), true)
	}
}

// TestOnlyBytes is P6.1 (N4): whatever bytes an entry is decoded from, it may be, and has them. The bytes are right
// ones with a few changed, put in, or gone.
func TestOnlyBytes(t *testing.T) {
	from := rand.New(rand.NewSource(23))
	edges := []byte{0, 1, 2, 8, 9, 16, 17, 32, 33, 127, 128, 129, 255}
	taken := 0
	for range 60000 {
		b := bytesOfEntry(someEntry(from))
		for range 1 + from.Intn(2) {
			at := from.Intn(len(b) + 1)
			b = slices.Concat(b[:at], []byte{edges[from.Intn(len(edges))]}, b[min(len(b), at+from.Intn(3)):])
		}
		e, err := entry.Decode(b)
		if err != api.OK {
			wrong(t, b)
			continue
		}
		taken++
		if again, err := entry.Encode(e); err != api.OK || !bytes.Equal(again, b) || !entry.Right(e) {
			t.Fatalf("%v: %s, %v %d", b, short(e), again, err)
		}
	}
	if taken < 3000 {
		t.Errorf("taken only %d times", taken)
	}
}

// TestMemory is rule 4: what is handed in is not written into, what lies behind it is left alone, sets are handed on as
// they are, and bytes are one's own.
func TestMemory(t *testing.T) {
	row := some()
	e, _ := entry.New(ordinary())
	e, a := e.Vote(value(56, row[:1]...))
	e, b := e.Accept(5, value(40, row[:2]...))
	e, c := e.Finish(value(40, row[:2]...))
	if a != api.OK || b != api.OK || c != api.OK || &e.F.P[0] != &row[0] || &e.A.P[0] != &row[0] || &e.V.P[0] != &row[0] || !slices.Equal(row, some()) {
		t.Fatalf("%s %d %d %d", short(e), a, b, c)
	}
	whole, err := entry.Encode(e)
	if err != api.OK || !entry.Right(e) || !entry.Same(e, e) || !slices.Equal(row, some()) {
		t.Fatalf("written into: %v %d", row, err)
	}
	want := slices.Clone(whole)
	_ = append(whole[:0:cap(whole)], slices.Repeat([]byte{9}, cap(whole))...)
	if again, _ := entry.Encode(e); !bytes.Equal(again, want) {
		t.Errorf("kept: %v", again)
	}
	all := slices.Concat(want, []byte{7, 7})
	got, err := entry.Decode(all[:len(want)])
	if err != api.OK || !bytes.Equal(all, slices.Concat(want, []byte{7, 7})) {
		t.Fatalf("written into: %v %d", all, err)
	}
	clear(all)
	if !alike(got, e) {
		t.Errorf("kept: %s", short(got))
	}
	lists := [][]api.Cmd{got.F.P, got.A.P, got.V.P}
	for i, l := range lists {
		clear(l[:cap(l)])
		for j, other := range lists {
			if j > i && !slices.Equal(other, row[:len(other)]) {
				t.Errorf("%d shares with %d: %v", i, j, other)
			}
		}
	}
}

// TestWhateverIsAsked is P1 and P2: every call ends, at whatever it is given, of whatever entry, and answers the same
// when it is asked again, with others asked between. With an error the entry is told that it is of.
func TestWhateverIsAsked(t *testing.T) {
	numbers := []int{math.MinInt, math.MinInt + 1, -mostNumber, -1, 0, 1, 5, 8, 9, 16, 17, 33, 256, 4104, 1 << 20, 1<<20 + 1, 1 << 40, 1<<40 + 1, 1 << 62, math.MaxInt}
	from := rand.New(rand.NewSource(24))
	pick := func() int { return numbers[from.Intn(len(numbers))] }
	odd := func() api.Cmd {
		return api.Cmd{ID: pick(), Kind: api.Kind(pick()), Symbol: pick(), Target: pick(), Side: api.Side(pick()), Price: pick(), Qty: pick()}
	}
	oddValue := func() api.Value {
		return api.Value{T: pick(), P: []api.Cmd{odd(), ordinary(), odd()}[:from.Intn(4)]}
	}
	tell := func(e entry.Entry, v api.Value, n int, bytes []byte) string {
		told := fmt.Sprint(entry.Right(e), entry.Same(e, e), e.Ahead(n), e.Holds(n), e.Free())
		for _, call := range []func() (entry.Entry, api.Errno){
			func() (entry.Entry, api.Errno) { return e.Promise(n) }, func() (entry.Entry, api.Errno) { return e.Reserve(n) }, func() (entry.Entry, api.Errno) { return e.Vote(v) },
			func() (entry.Entry, api.Errno) { return e.Accept(n, v) }, func() (entry.Entry, api.Errno) { return e.Finish(v) },
		} {
			got, err := call()
			if err != api.OK && !alike(got, e) {
				t.Fatalf("%s, %v, %d: %s %d", short(e), v, n, short(got), err)
			}
			told += fmt.Sprint(got, err)
		}
		a, x := entry.New(e.Cmd)
		b, y := entry.Encode(e)
		c, z := entry.Decode(bytes)
		if x != api.OK && !alike(a, entry.Entry{}) || y != api.OK && len(b) > 0 || z != api.OK && !alike(c, entry.Entry{}) {
			t.Fatalf("%s: %s %d, %v %d; %v: %s %d", short(e), short(a), x, b, y, bytes, short(c), z)
		}
		return told + fmt.Sprint(a, x, b, y, c, z)
	}
	for range 10000 {
		e := someEntry(from)
		for range 1 + from.Intn(3) {
			switch from.Intn(7) {
			case 0:
				e.Cmd = odd()
			case 1:
				e.Promised, e.AB = pick(), pick()
			case 2:
				e.Low, e.High = pick(), pick()
			case 3:
				e.F = oddValue()
			case 4:
				e.A = oddValue()
			case 5:
				e.V = oddValue()
			case 6:
				e.Done = !e.Done
			}
		}
		b := make([]byte, from.Intn(60))
		for i := range b {
			b[i] = byte(from.Intn(256)) >> from.Intn(8)
		}
		v, n := oddValue(), pick()
		told := tell(e, v, n, b)
		tell(someEntry(from), someValue(from), pick(), bytesOfEntry(someEntry(from)))
		if again := tell(e, v, n, b); again != told {
			t.Fatalf("%s, %v: %s, then %s", short(e), b, told, again)
		}
	}
}
