package octet_test

import (
	"bytes"
	"encoding/binary"
	"fmt"
	"math"
	"math/rand"
	"reflect"
	"slices"
	"testing"

	"lictor/api"
	"lictor/cmd"
	"lictor/octet"
	"lictor/preds"
)

const (
	mostNumber = 1 << 40
	mostPreds  = 1024
	lastName   = 16*256 + 8
)

// place, cancel and amend are commands as short as can be.
func place(id, symbol int, side api.Side, price, qty int) api.Cmd {
	return api.Cmd{ID: id, Kind: api.Place, Symbol: symbol, Side: side, Price: price, Qty: qty}
}

func cancel(id, symbol, target int) api.Cmd {
	return api.Cmd{ID: id, Kind: api.Cancel, Symbol: symbol, Target: target}
}

func amend(id, symbol, target, qty int) api.Cmd {
	return api.Cmd{ID: id, Kind: api.Amend, Symbol: symbol, Target: target, Qty: qty}
}

// first are commands of the first n names, rising.
func first(n int) []api.Cmd {
	var l []api.Cmd
	for id := 16; len(l) < n; id++ {
		if id%16 <= 8 {
			l = append(l, place(id, id%4, api.Sell, id*200, id%100))
		}
	}
	return l
}

// bad are commands that may not be, whose numbers are from 0 to 2^40.
func bad() []api.Cmd {
	return []api.Cmd{
		{}, {ID: 15}, {ID: 25}, {ID: lastName + 1}, {ID: mostNumber},
		{ID: 17, Kind: 3}, {ID: 17, Kind: mostNumber}, {ID: 17, Symbol: 4}, {ID: 17, Symbol: mostNumber},
		{ID: 17, Target: 33}, {ID: 17, Side: 2}, {ID: 17, Side: mostNumber},
		{ID: 17, Price: 1<<20 + 1}, {ID: 17, Price: mostNumber}, {ID: 17, Qty: 1<<20 + 1}, {ID: 17, Qty: mostNumber},
		{ID: 17, Kind: api.Cancel}, {ID: 17, Kind: api.Cancel, Target: 25}, {ID: 17, Kind: api.Cancel, Target: 33, Qty: 1},
		{ID: 17, Kind: api.Amend}, {ID: 17, Kind: api.Amend, Target: 33, Price: 1}, {ID: 17, Kind: api.Amend, Target: 33, Side: 1},
	}
}

// worse are commands that may not be, with a number below 0, or above 2^40.
func worse() []api.Cmd {
	return []api.Cmd{
		{ID: -17}, {ID: math.MinInt}, {ID: math.MaxInt}, {ID: 17, Kind: -1}, {ID: 17, Symbol: -1}, {ID: 17, Target: -1}, {ID: 17, Side: -1},
		{ID: 17, Price: -1}, {ID: 17, Price: mostNumber + 1}, {ID: 17, Qty: -1}, {ID: 17, Qty: math.MinInt}, {ID: 17, Qty: math.MaxInt},
	}
}

// odd are numbers about all edges of numbers' bytes.
func odd() []int {
	l := []int{math.MinInt, math.MinInt + 1, math.MaxInt - 1, math.MaxInt}
	for at := 0; at < 63; at++ {
		for d := -2; d <= 2; d++ {
			l = append(l, 1<<at+d, -(1<<at)+d)
		}
	}
	slices.Sort(l)
	return slices.Compact(l)
}

// bytesOf is the bytes of numbers as another package writes them, whatever numbers from 0 on they are.
func bytesOf(n ...int) []byte {
	b := []byte{}
	for _, x := range n {
		b = binary.AppendUvarint(b, uint64(x))
	}
	return b
}

// cmdBytes is the bytes of commands, with how many they are said to be ahead of them.
func cmdBytes(many int, l ...api.Cmd) []byte {
	b := bytesOf(many)
	for _, c := range l {
		b = append(b, bytesOf(c.ID, int(c.Kind), c.Symbol, c.Target, int(c.Side), c.Price, c.Qty)...)
	}
	return b
}

// valueBytes is a value's bytes, whether it may be or not.
func valueBytes(t int, p ...api.Cmd) []byte { return append(bytesOf(t), cmdBytes(len(p), p...)...) }

// TestPut is P4.1 (O1): numbers of one byte and of more, the edges between, 2^40, none, several.
func TestPut(t *testing.T) {
	for _, x := range []struct {
		of   []int
		want []byte
	}{
		{nil, nil}, {[]int{0}, []byte{0}}, {[]int{1}, []byte{1}}, {[]int{127}, []byte{127}}, {[]int{128}, []byte{128, 1}}, {[]int{129}, []byte{129, 1}},
		{[]int{300}, []byte{172, 2}}, {[]int{16383}, []byte{255, 127}}, {[]int{16384}, []byte{128, 128, 1}}, {[]int{1<<35 - 1}, []byte{255, 255, 255, 255, 127}},
		{[]int{1 << 35}, []byte{128, 128, 128, 128, 128, 1}}, {[]int{mostNumber - 1}, []byte{255, 255, 255, 255, 255, 31}}, {[]int{mostNumber}, []byte{128, 128, 128, 128, 128, 32}},
		{[]int{0, 0}, []byte{0, 0}}, {[]int{5, 128, 0, 127}, []byte{5, 128, 1, 0, 127}},
	} {
		if b, err := octet.Put(x.of...); !bytes.Equal(b, x.want) || err != api.OK {
			t.Errorf("Put(%v): %v %d", x.of, b, err)
		}
	}
}

// TestPutEach is P4.1 (O1): numbers about all edges, alone, and each at each place among others.
func TestPutEach(t *testing.T) {
	for _, n := range odd() {
		may := 0 <= n && n <= mostNumber
		for _, l := range [][]int{{n}, {n, 0, 7}, {300, n, 0}, {1, mostNumber, n}, {n, n}} {
			b, err := octet.Put(l...)
			if may && (!bytes.Equal(b, bytesOf(l...)) || err != api.OK) {
				t.Errorf("Put(%v): %v %d", l, b, err)
			}
			if !may && (len(b) != 0 || err != api.ErrArg) {
				t.Errorf("Put(%v): %v %d", l, b, err)
			}
		}
	}
}

// TestPutCmds is P4.1 (O1): no commands, ordinary ones, in any order, also one twice, and two of one name.
func TestPutCmds(t *testing.T) {
	a, b, c := place(17, 3, api.Sell, 300, 2), cancel(33, 1, 17), amend(lastName, 2, 33, 1<<20)
	all := append([]byte{17, 0, 3, 0, 1, 172, 2, 2}, 33, 1, 1, 17, 0, 0, 0)
	all = append(all, 136, 32, 2, 2, 33, 0, 0, 128, 128, 64)
	if got, err := octet.PutCmds(a, b, c); !bytes.Equal(got, append([]byte{3}, all...)) || err != api.OK {
		t.Errorf("%v %d", got, err)
	}
	if got, err := octet.PutCmds(); !bytes.Equal(got, []byte{0}) || err != api.OK {
		t.Errorf("no commands: %v %d", got, err)
	}
	for _, l := range [][]api.Cmd{nil, {a}, {c}, {c, b, a}, {b, b}, {b, cancel(33, 0, 16), b}, first(127), first(128), first(mostPreds - 1), first(mostPreds), slices.Repeat([]api.Cmd{b, a}, mostPreds/2)} {
		if got, err := octet.PutCmds(l...); !bytes.Equal(got, cmdBytes(len(l), l...)) || err != api.OK {
			t.Errorf("%d commands: %v %d", len(l), got, err)
		}
	}
}

// TestPutNoCmds is P4.1 (O1): a command that may not be, wherever it stands, and too many commands.
func TestPutNoCmds(t *testing.T) {
	for _, c := range append(bad(), worse()...) {
		good := []api.Cmd{place(16, 0, api.Buy, 5, 2), cancel(33, 0, 16)}
		for i := range len(good) + 1 {
			l := slices.Insert(slices.Clone(good), i, c)
			if b, err := octet.PutCmds(l...); len(b) != 0 || err != api.ErrArg {
				t.Errorf("%v at %d: %v %d", c, i, b, err)
			}
			if b, err := octet.PutValue(api.Value{T: 16, P: l}); len(b) != 0 || err != api.ErrArg {
				t.Errorf("value with %v at %d: %v %d", c, i, b, err)
			}
		}
	}
	for _, l := range [][]api.Cmd{first(mostPreds + 1), first(2000), slices.Repeat(first(1), mostPreds+1), append(first(mostPreds), api.Cmd{})} {
		if b, err := octet.PutCmds(l...); len(b) != 0 || err != api.ErrArg {
			t.Errorf("%d commands: %v %d", len(l), b, err)
		}
		if b, err := octet.PutValue(api.Value{T: 16, P: l}); len(b) != 0 || err != api.ErrArg {
			t.Errorf("value with %d commands: %v %d", len(l), b, err)
		}
	}
}

// notSets are commands that may be, but are no set.
func notSets() [][]api.Cmd {
	a, b, c := place(17, 0, api.Buy, 5, 2), cancel(33, 0, 17), amend(34, 0, 17, 1)
	full := first(mostPreds)
	full[mostPreds-2], full[mostPreds-1] = full[mostPreds-1], full[mostPreds-2]
	return [][]api.Cmd{{b, a}, {a, a}, {a, b, b}, {a, c, b}, {b, a, c}, {b, cancel(33, 0, 16)}, full}
}

// TestPutValue is P4.1 (O1): values without commands, and with some; what is no T, what is no set.
func TestPutValue(t *testing.T) {
	a, b := place(17, 3, api.Sell, 300, 2), cancel(33, 1, 17)
	for _, p := range [][]api.Cmd{nil, {}, {a}, {a, b}, first(mostPreds - 1), first(mostPreds)} {
		for _, at := range odd() {
			got, err := octet.PutValue(api.Value{T: at, P: p})
			if 0 <= at && at <= mostNumber {
				if !bytes.Equal(got, valueBytes(at, p...)) || err != api.OK {
					t.Errorf("%d, %d commands: %v %d", at, len(p), got, err)
				}
			} else if len(got) != 0 || err != api.ErrArg {
				t.Errorf("%d, %d commands: %v %d", at, len(p), got, err)
			}
		}
	}
	if got, err := octet.PutValue(api.Value{T: 56, P: []api.Cmd{b}}); !bytes.Equal(got, []byte{56, 1, 33, 1, 1, 17, 0, 0, 0}) || err != api.OK {
		t.Errorf("%v %d", got, err)
	}
	for _, p := range notSets() {
		for _, at := range []int{0, 56, mostNumber, -1, mostNumber + 1} {
			if got, err := octet.PutValue(api.Value{T: at, P: p}); len(got) != 0 || err != api.ErrArg {
				t.Errorf("%d, no set %v: %v %d", at, p[:2], got, err)
			}
		}
	}
}

// numberOf is the number that comes first of bytes, and what is left, as another package reads them.
func numberOf(b []byte) (int, []byte, api.Errno) {
	x, n := binary.Uvarint(b[:min(6, len(b))])
	switch {
	case n == 0 && len(b) < 6:
		return 0, nil, api.ErrCut
	case n <= 0 || x > mostNumber || n != len(bytesOf(int(x))):
		return 0, nil, api.ErrForm
	}
	return int(x), b[n:], api.OK
}

// checkNumber tells whether a reader takes a number of bytes, or not, as it should.
func checkNumber(t *testing.T, b []byte) {
	t.Helper()
	want, left, wrong := numberOf(b)
	r := octet.Read(b)
	if got := r.Num(); got != want || r.Err() != wrong || !bytes.Equal(r.Rest(), left) {
		t.Fatalf("%v: %d %d, %v left", b, got, r.Err(), r.Rest())
	}
}

// TestNum is P4.1 (O2): numbers of one byte to six, of more bytes than they need, above 2^40, of six bytes that are 128
// or more; no bytes, bytes that end in the middle.
func TestNum(t *testing.T) {
	for _, x := range []struct {
		of   []byte
		want int
		left int
		err  api.Errno
	}{
		{[]byte{0}, 0, 0, api.OK}, {[]byte{1, 2}, 1, 1, api.OK}, {[]byte{127}, 127, 0, api.OK}, {[]byte{128, 1}, 128, 0, api.OK}, {[]byte{172, 2, 0, 0}, 300, 2, api.OK},
		{[]byte{255, 127}, 16383, 0, api.OK}, {[]byte{128, 128, 1}, 16384, 0, api.OK}, {[]byte{0, 128}, 0, 1, api.OK},
		{[]byte{255, 255, 255, 255, 127, 9}, 1<<35 - 1, 1, api.OK}, {[]byte{255, 255, 255, 255, 255, 31}, mostNumber - 1, 0, api.OK}, {[]byte{128, 128, 128, 128, 128, 32, 7, 7}, mostNumber, 2, api.OK},
		{nil, 0, 0, api.ErrCut}, {[]byte{128}, 0, 0, api.ErrCut}, {[]byte{255, 255, 255}, 0, 0, api.ErrCut}, {[]byte{128, 128, 128, 128, 128}, 0, 0, api.ErrCut},
		{[]byte{128, 0}, 0, 0, api.ErrForm}, {[]byte{129, 0}, 0, 0, api.ErrForm}, {[]byte{255, 255, 0, 1}, 0, 0, api.ErrForm}, {[]byte{255, 255, 255, 255, 255, 0}, 0, 0, api.ErrForm},
		{[]byte{129, 128, 128, 128, 128, 32}, 0, 0, api.ErrForm}, {[]byte{128, 128, 128, 128, 128, 33}, 0, 0, api.ErrForm}, {[]byte{128, 128, 128, 128, 128, 64}, 0, 0, api.ErrForm}, {[]byte{255, 255, 255, 255, 255, 127}, 0, 0, api.ErrForm},
		{[]byte{128, 128, 128, 128, 128, 128}, 0, 0, api.ErrForm}, {[]byte{255, 255, 255, 255, 255, 255}, 0, 0, api.ErrForm}, {[]byte{128, 128, 128, 128, 128, 128, 0}, 0, 0, api.ErrForm},
		{[]byte{128, 128, 128, 128, 128, 128, 1}, 0, 0, api.ErrForm}, {[]byte{128, 128, 128, 128, 128, 128, 128, 128, 128, 128}, 0, 0, api.ErrForm},
	} {
		r := octet.Read(x.of)
		if got := r.Num(); got != x.want || r.Err() != x.err || len(r.Rest()) != x.left {
			t.Errorf("%v: %d %d, %v left", x.of, got, r.Err(), r.Rest())
		}
	}
}

// TestNumEach is P4.1 (O2): all bytes up to two, and those up to seven of which each is at an edge.
func TestNumEach(t *testing.T) {
	checkNumber(t, nil)
	for a := range 256 {
		checkNumber(t, []byte{byte(a)})
		for b := range 256 {
			checkNumber(t, []byte{byte(a), byte(b)})
		}
	}
	edges := []byte{0, 1, 31, 32, 33, 127, 128, 255}
	all := [][]byte{nil}
	for range 7 {
		var more [][]byte
		for _, b := range all {
			checkNumber(t, b)
			// One that has ended is left alone: what comes behind it is looked at above.
			if len(b) > 0 && b[len(b)-1] < 128 {
				continue
			}
			for _, e := range edges {
				more = append(more, append(slices.Clone(b), e))
			}
		}
		all = more
	}
	for _, b := range all {
		checkNumber(t, b)
	}
}

// TestCmd is P4.1 (O2): commands that may be, and what is left behind them; commands that may not be, whose numbers are
// such.
func TestCmd(t *testing.T) {
	good := append(first(20), cancel(16, 0, 16), cancel(lastName, 3, lastName), amend(17, 2, 33, 0), amend(lastName, 3, lastName, 1<<20), place(16, 0, api.Buy, 0, 0), place(lastName, 3, api.Sell, 1<<20, 1<<20))
	for _, c := range good {
		r := octet.Read(append(cmdBytes(9, c), 5, 6))
		if n := r.Num(); n != 9 {
			t.Errorf("%d", n)
		}
		if got := r.Cmd(); got != c || r.Err() != api.OK || !bytes.Equal(r.Rest(), []byte{5, 6}) {
			t.Errorf("%v: %v %d, %v left", c, got, r.Err(), r.Rest())
		}
	}
	for _, c := range bad() {
		r := octet.Read(append(cmdBytes(9, c), 5, 6))
		r.Num()
		if got := r.Cmd(); got != (api.Cmd{}) || r.Err() != api.ErrForm || len(r.Rest()) != 0 {
			t.Errorf("%v: %v %d, %v left", c, got, r.Err(), r.Rest())
		}
	}
}

// TestCmds is P4.1 (O2): commands in any order, none, 1024; more than these, whether they are there or not; one that may
// not be.
func TestCmds(t *testing.T) {
	a, b := place(17, 3, api.Sell, 300, 2), cancel(33, 1, 17)
	for _, l := range [][]api.Cmd{nil, {a}, {a, b}, {b, a}, {b, b, b}, {b, cancel(33, 0, 16)}, first(mostPreds - 1), first(mostPreds), slices.Repeat([]api.Cmd{b, a}, mostPreds/2)} {
		r := octet.Read(append(cmdBytes(len(l), l...), 5, 6))
		if got := r.Cmds(); !slices.Equal(got, l) || r.Err() != api.OK || !bytes.Equal(r.Rest(), []byte{5, 6}) {
			t.Errorf("%d commands: %d of them, %d, %v left", len(l), len(got), r.Err(), r.Rest())
		}
	}
	for _, c := range bad() {
		for i := range 3 {
			l := slices.Insert([]api.Cmd{a, b}, i, c)
			checkWrong(t, cmdBytes(3, l...), api.ErrForm, takeCmds)
		}
	}
	for _, x := range [][]byte{cmdBytes(mostPreds+1, first(mostPreds+1)...), bytesOf(mostPreds + 1), bytesOf(mostNumber), append(bytesOf(mostPreds+1), 128, 0), append(bytesOf(mostPreds+1), 128)} {
		checkWrong(t, x, api.ErrForm, takeCmds)
	}
}

// TestValue is P4.1 (O2): values without commands, and with some; any T; a P that is no set.
func TestValue(t *testing.T) {
	a, b := place(17, 3, api.Sell, 300, 2), cancel(33, 1, 17)
	for _, p := range [][]api.Cmd{nil, {a}, {b}, {a, b}, first(mostPreds - 1), first(mostPreds)} {
		for _, at := range []int{0, 1, 15, 16, 56, 127, 128, 1048568, mostNumber} {
			r := octet.Read(append(valueBytes(at, p...), 5, 6))
			if got := r.Value(); got.T != at || !slices.Equal(got.P, p) || r.Err() != api.OK || !bytes.Equal(r.Rest(), []byte{5, 6}) {
				t.Errorf("%d, %d commands: %d, %d of them, %d, %v left", at, len(p), got.T, len(got.P), r.Err(), r.Rest())
			}
		}
	}
	for _, p := range notSets() {
		checkWrong(t, append(valueBytes(56, p...), 5, 6), api.ErrForm, takeValue)
	}
}

// take are the calls that take something, each told as one.
func takeNum(r *octet.Reader) any   { return r.Num() }
func takeCmd(r *octet.Reader) any   { return r.Cmd() }
func takeCmds(r *octet.Reader) any  { return r.Cmds() }
func takeValue(r *octet.Reader) any { return r.Value() }

// nothing tells whether what was taken is 0, the zero command, no commands, the zero value.
func nothing(x any) bool {
	switch v := x.(type) {
	case int:
		return v == 0
	case api.Cmd:
		return v == api.Cmd{}
	case []api.Cmd:
		return len(v) == 0
	case api.Value:
		return v.T == 0 && len(v.P) == 0
	}
	return false
}

// checkWrong tells whether bytes go wrong as they should when they are taken, and whether nothing comes from then on,
// whatever is taken, nor is left, and the error stays.
func checkWrong(t *testing.T, b []byte, want api.Errno, take func(*octet.Reader) any) {
	t.Helper()
	r := octet.Read(b)
	for range 2 {
		for _, call := range []func(*octet.Reader) any{take, takeNum, takeCmd, takeCmds, takeValue} {
			if got := call(r); !nothing(got) || r.Err() != want || len(r.Rest()) != 0 {
				t.Fatalf("%d bytes from %v on: %v %d, %v left", len(b), b[:min(len(b), 20)], got, r.Err(), r.Rest())
			}
		}
	}
}

// TestWrong is P4.1 (O2): what goes wrong stays, each kind of it.
func TestWrong(t *testing.T) {
	full := bytesOf(17, 0, 0, 0, 0, 5, 2)
	for _, x := range []struct {
		of   []byte
		want api.Errno
		take func(*octet.Reader) any
	}{
		{nil, api.ErrCut, takeNum}, {nil, api.ErrCut, takeCmd}, {nil, api.ErrCut, takeCmds}, {nil, api.ErrCut, takeValue},
		{[]byte{128}, api.ErrCut, takeNum}, {full[:6], api.ErrCut, takeCmd}, {[]byte{1}, api.ErrCut, takeCmds}, {[]byte{56}, api.ErrCut, takeValue},
		{[]byte{128, 0, 1, 1, 1}, api.ErrForm, takeNum}, {append([]byte{128, 0}, full...), api.ErrForm, takeCmd}, {append([]byte{128, 0}, full...), api.ErrForm, takeCmds}, {append([]byte{128, 0, 1}, full...), api.ErrForm, takeValue},
		{slices.Repeat([]byte{128}, 6), api.ErrForm, takeNum}, {slices.Repeat([]byte{255}, 80), api.ErrForm, takeCmd}, {slices.Repeat([]byte{255}, 80), api.ErrForm, takeCmds}, {slices.Repeat([]byte{255}, 80), api.ErrForm, takeValue},
	} {
		checkWrong(t, x.of, x.want, x.take)
	}
}

// TestWrongFirst is P4.1 (O2): which error is told, where there would be several: a command's numbers ahead of whether it
// may be, too many ahead of each one, commands ahead of whether they are a set.
func TestWrongFirst(t *testing.T) {
	none := bytesOf(17, 9, 9, 9, 9, 9, 9)
	noSet := cmdBytes(2, cancel(33, 0, 16), cancel(17, 0, 16))
	for _, x := range []struct {
		of   []byte
		want api.Errno
		take func(*octet.Reader) any
	}{
		{none, api.ErrForm, takeCmd}, {none[:6], api.ErrCut, takeCmd}, {none[:2], api.ErrCut, takeCmd}, {[]byte{0}, api.ErrCut, takeCmd},
		{append(none[:6:6], 128), api.ErrCut, takeCmd}, {append(none[:6:6], 128, 0), api.ErrForm, takeCmd}, {bytesOf(3, 17, 9), api.ErrCut, takeCmds},
		{append(bytesOf(2), none...), api.ErrForm, takeCmds}, {append(bytesOf(2), none[:6]...), api.ErrCut, takeCmds},
		{bytesOf(mostPreds), api.ErrCut, takeCmds}, {bytesOf(mostPreds + 1), api.ErrForm, takeCmds}, {bytesOf(5, mostPreds), api.ErrCut, takeValue}, {bytesOf(5, mostPreds+1), api.ErrForm, takeValue},
		{append(bytesOf(mostPreds+1), 128), api.ErrForm, takeCmds}, {append([]byte{56}, noSet...), api.ErrForm, takeValue}, {append([]byte{56}, noSet[:len(noSet)-1]...), api.ErrCut, takeValue},
		{append([]byte{128, 0, 3}, noSet[:5]...), api.ErrForm, takeValue}, {[]byte{56, 128, 128, 128, 128, 128}, api.ErrCut, takeValue}, {[]byte{56, 128, 128, 128, 128, 128, 128}, api.ErrForm, takeValue},
	} {
		checkWrong(t, x.of, x.want, x.take)
	}
	// Three of a set that doesn't rise from the first two on are said to come: it is cut, as that is told behind all of it.
	checkWrong(t, append(bytesOf(56, 3), noSet[1:]...), api.ErrCut, takeValue)
	// What went wrong first stays, whatever is taken then: here it goes wrong at the second number.
	r := octet.Read([]byte{7, 128, 0, 5})
	if n := r.Num(); n != 7 || r.Err() != api.OK || len(r.Rest()) != 3 {
		t.Errorf("%d %d", n, r.Err())
	}
	if n, c := r.Num(), r.Cmd(); n != 0 || c != (api.Cmd{}) || r.Err() != api.ErrForm || len(r.Rest()) != 0 {
		t.Errorf("%d %v %d", n, c, r.Err())
	}
}

// TestCut is P4.1 (O2): of all bytes of a value, and of commands, but the last ones it is told that they are too few.
func TestCut(t *testing.T) {
	p := []api.Cmd{place(17, 3, api.Sell, 300, 2), cancel(33, 1, 17), amend(lastName, 2, 33, 1<<20)}
	whole := valueBytes(1048568, p...)
	list := cmdBytes(3, p[2], p[1], p[2])
	for n := range whole {
		checkWrong(t, whole[:n], api.ErrCut, takeValue)
	}
	for n := range list {
		checkWrong(t, list[:n], api.ErrCut, takeCmds)
	}
	one := list[1:11]
	for n := range one {
		checkWrong(t, one[:n], api.ErrCut, takeCmd)
	}
	if c := octet.Read(one).Cmd(); c != p[2] {
		t.Errorf("%v", c)
	}
}

// TestRest is P4.1 (O2): what is left is not taken by being told, and each thing takes just its own bytes.
func TestRest(t *testing.T) {
	a, b := place(17, 3, api.Sell, 300, 2), cancel(33, 1, 17)
	all := slices.Concat(bytesOf(300), valueBytes(56, a, b), cmdBytes(2, b, a), bytesOf(0, mostNumber))
	r := octet.Read(all)
	at := 0
	for _, x := range []struct {
		take func(*octet.Reader) any
		want any
		n    int
	}{
		{takeNum, 300, 2}, {takeValue, api.Value{T: 56, P: []api.Cmd{a, b}}, 17}, {takeCmds, []api.Cmd{b, a}, 16}, {takeNum, 0, 1}, {takeNum, mostNumber, 6},
	} {
		if !bytes.Equal(r.Rest(), all[at:]) || !bytes.Equal(r.Rest(), all[at:]) || r.Err() != api.OK {
			t.Errorf("at %d: %v left, %d", at, r.Rest(), r.Err())
		}
		if got := x.take(r); !reflect.DeepEqual(got, x.want) {
			t.Errorf("at %d: %v, not %v", at, got, x.want)
		}
		at += x.n
	}
	if at != len(all) || len(r.Rest()) != 0 || r.Err() != api.OK {
		t.Errorf("at %d of %d: %v left, %d", at, len(all), r.Rest(), r.Err())
	}
}

// TestNil is P4.1 (O2), P1: on a nil reader nothing comes, and it is ErrArg.
func TestNil(t *testing.T) {
	var r *octet.Reader
	for _, take := range []func(*octet.Reader) any{takeNum, takeCmd, takeCmds, takeValue} {
		if got := take(r); !nothing(got) || r.Err() != api.ErrArg || len(r.Rest()) != 0 {
			t.Errorf("%v %d, %v left", got, r.Err(), r.Rest())
		}
	}
	for _, b := range [][]byte{nil, {}} {
		if e := octet.Read(b); e == nil || e.Err() != api.OK || len(e.Rest()) != 0 {
			t.Errorf("no bytes: %v", e)
		}
	}
}

// TestMemory is rule 4: what is handed in is neither written into nor kept, what lies behind it is left alone, and what
// is answered is one's own.
func TestMemory(t *testing.T) {
	a, b := place(17, 3, api.Sell, 300, 2), cancel(33, 1, 17)
	row := []api.Cmd{a, b, amend(34, 0, 17, 1)}
	kept := slices.Clone(row)
	v := api.Value{T: 56, P: row[:2]}
	numbers := []int{5, 300, 7}
	of, _ := octet.Put(numbers[:2]...)
	list, _ := octet.PutCmds(row[:2]...)
	value, _ := octet.PutValue(v)
	if !slices.Equal(row, kept) || !slices.Equal(numbers, []int{5, 300, 7}) || v.T != 56 || len(v.P) != 2 {
		t.Errorf("written into: %v %v", row, numbers)
	}
	numbers[0], row[0], row[1] = 0, api.Cmd{}, api.Cmd{}
	if !bytes.Equal(of, bytesOf(5, 300)) || !bytes.Equal(list, cmdBytes(2, a, b)) || !bytes.Equal(value, valueBytes(56, a, b)) {
		t.Errorf("kept: %v %v %v", of, list, value)
	}
	all := slices.Concat(value, value, []byte{1, 2, 3})
	r := octet.Read(all[:2*len(value)])
	clear(all)
	one := r.Value()
	rest := r.Rest()
	clear(rest)
	_ = append(rest[:0], 9, 9, 9)
	rest = append(r.Rest(), 9)
	one.P[0], one.P[1] = api.Cmd{}, api.Cmd{}
	two := r.Value()
	if two.T != 56 || !slices.Equal(two.P, []api.Cmd{a, b}) || r.Err() != api.OK || len(r.Rest()) != 0 {
		t.Errorf("kept, or shared: %v %d, %v left", two, r.Err(), r.Rest())
	}
	if n := r.Num(); n != 0 || r.Err() != api.ErrCut || !bytes.Equal(rest, append(value, 9)) {
		t.Errorf("read behind its end: %d %d", n, r.Err())
	}
}

// someSet is a set, the same one for the same source.
func someSet(from *rand.Rand, most int) []api.Cmd {
	var l []api.Cmd
	for range from.Intn(most + 1) {
		id, _ := cmd.Name(1+from.Intn(256), from.Intn(9))
		target, _ := cmd.Name(1+from.Intn(256), from.Intn(9))
		few := func() int { return from.Intn(1<<20+1) >> from.Intn(20) }
		l = append(l, []api.Cmd{place(id, from.Intn(4), api.Side(from.Intn(2)), few(), few()), cancel(id, from.Intn(4), target), amend(id, from.Intn(4), target, few())}[from.Intn(3)])
	}
	slices.SortFunc(l, func(a, b api.Cmd) int { return a.ID - b.ID })
	return slices.CompactFunc(l, func(a, b api.Cmd) bool { return a.ID == b.ID })
}

// TestThereAndBack is P4.2: what was put is taken, and nothing else.
func TestThereAndBack(t *testing.T) {
	from := rand.New(rand.NewSource(4))
	for i := range 3000 {
		n, l, v := from.Intn(mostNumber+1)>>from.Intn(41), someSet(from, 9), api.Value{T: from.Intn(mostNumber+1) >> from.Intn(41), P: someSet(from, 40)}
		from.Shuffle(len(l), func(i, j int) { l[i], l[j] = l[j], l[i] })
		a, e := octet.Put(n, i)
		b, f := octet.PutCmds(l...)
		c, g := octet.PutValue(v)
		r := octet.Read(slices.Concat(a, b, c))
		x, y, z, w := r.Num(), r.Num(), r.Cmds(), r.Value()
		if e != api.OK || f != api.OK || g != api.OK || x != n || y != i || !slices.Equal(z, l) || w.T != v.T || !preds.Same(w.P, v.P) || r.Err() != api.OK || len(r.Rest()) != 0 {
			t.Fatalf("%d %d %v %v: %d %d %v %v %d", n, i, l, v, x, y, z, w, r.Err())
		}
	}
}

// TestOnlyBytes is P4.2: whatever bytes a number, commands or a value are taken of, those are what is put of it. The
// bytes are right ones with a few changed, put in, or gone.
func TestOnlyBytes(t *testing.T) {
	from := rand.New(rand.NewSource(5))
	edges := []byte{0, 1, 16, 17, 32, 33, 127, 128, 129, 255}
	taken := [3]int{}
	for range 40000 {
		b, _ := octet.PutValue(api.Value{T: from.Intn(mostNumber+1) >> from.Intn(41), P: someSet(from, 3)})
		for range from.Intn(3) {
			at := from.Intn(len(b) + 1)
			b = slices.Concat(b[:at], []byte{edges[from.Intn(len(edges))]}, b[min(len(b), at+from.Intn(3)):])
		}
		for i, put := range []func(*octet.Reader) ([]byte, api.Errno){
			func(r *octet.Reader) ([]byte, api.Errno) { return octet.Put(r.Num()) },
			func(r *octet.Reader) ([]byte, api.Errno) { return octet.PutCmds(r.Cmds()...) },
			func(r *octet.Reader) ([]byte, api.Errno) { return octet.PutValue(r.Value()) },
		} {
			r := octet.Read(b)
			again, err := put(r)
			if r.Err() != api.OK {
				continue
			}
			taken[i]++
			if err != api.OK || !bytes.Equal(append(again, r.Rest()...), b) {
				t.Fatalf("%v: %v %d, %v left", b, again, err, r.Rest())
			}
		}
	}
	if taken[0] < 10000 || taken[1] < 1000 || taken[2] < 10000 {
		t.Errorf("taken only %v times", taken)
	}
}

// TestWhateverIsAsked is P1 and P2: every call ends, at whatever it is given, and answers the same when it is asked
// again, of another reader of the same bytes.
func TestWhateverIsAsked(t *testing.T) {
	from := rand.New(rand.NewSource(6))
	ask := func(b []byte, calls []int) string {
		told := ""
		r := octet.Read(b)
		for _, c := range calls {
			told += fmt.Sprint([]func(*octet.Reader) any{takeNum, takeCmd, takeCmds, takeValue, func(r *octet.Reader) any { return r.Rest() }}[c](r), r.Err(), len(r.Rest()), " ")
		}
		return told
	}
	for range 20000 {
		b := make([]byte, from.Intn(60))
		for i := range b {
			b[i] = byte(from.Intn(256)) >> from.Intn(8)
		}
		calls := []int{from.Intn(5), from.Intn(5), from.Intn(5), from.Intn(5)}
		told := ask(b, calls)
		ask(slices.Concat(b, b), calls)
		if again := ask(b, calls); again != told {
			t.Fatalf("%v, %v: %s, then %s", b, calls, told, again)
		}
	}
	for _, n := range odd() {
		c := api.Cmd{ID: n, Kind: api.Kind(n), Symbol: n, Target: n, Side: api.Side(n), Price: n, Qty: n}
		a, e := octet.Put(n, n)
		b, f := octet.PutCmds(c, c)
		d, g := octet.PutValue(api.Value{T: n, P: []api.Cmd{c}})
		if (e != api.OK && len(a) != 0) || f != api.ErrArg || len(b) != 0 || g != api.ErrArg || len(d) != 0 {
			t.Errorf("%d: %v %d, %v %d, %v %d", n, a, e, b, f, d, g)
		}
	}
}
