package wire_test

import (
	"bytes"
	"encoding/binary"
	"fmt"
	"math"
	"math/rand"
	"reflect"
	"slices"
	"testing"

	"lictor/api"
	"lictor/cmd"
	"lictor/wire"
)

const (
	leastStamp  = 16
	lastStamp   = 16*65535 + 8
	mostBallot  = 1 << 20
	mostNumber  = 1 << 40
	mostPreds   = 1024
	lastName    = 16*256 + 8
	sortsInAll  = 9
	lastReplica = 8
)

// place, cancel and amend are commands as short as can be.
func place(id, symbol int, side api.Side, price, qty int) api.Cmd {
	return api.Cmd{ID: id, Kind: api.Place, Symbol: symbol, Side: side, Price: price, Qty: qty}
}

func cancel(id, symbol, target int) api.Cmd {
	return api.Cmd{ID: id, Kind: api.Cancel, Symbol: symbol, Target: target}
}

func amend(id, symbol, target, qty int) api.Cmd {
	return api.Cmd{ID: id, Kind: api.Amend, Symbol: symbol, Target: target, Qty: qty}
}

// first are commands of the first n names, rising: a set, if they are not too many.
func first(n int) []api.Cmd {
	var l []api.Cmd
	for id := 16; len(l) < n; id++ {
		if id%16 <= 8 {
			l = append(l, place(id, id%4, api.Sell, id*200, id%100))
		}
	}
	return l
}

// some is a set of three.
func some() []api.Cmd {
	return []api.Cmd{place(18, 3, api.Sell, 300, 2), cancel(33, 1, 17), amend(lastName, 2, 33, 1<<20)}
}

// value is a value of a timestamp and commands, whether it may be or not.
func value(t int, p ...api.Cmd) api.Value { return api.Value{T: t, P: p} }

// notSets are commands that are no set, as their names don't rise, one may not be, or there are too many.
func notSets() [][]api.Cmd {
	a, b := place(17, 0, api.Buy, 5, 2), cancel(33, 0, 17)
	return [][]api.Cmd{{b, a}, {a, a}, {a, b, b}, {b, cancel(33, 0, 16)}, {{}}, {a, {ID: 34, Symbol: 4}}, first(mostPreds + 1)}
}

// badCmds are commands that may not be, whose numbers are from 0 to 2^40.
func badCmds() []api.Cmd {
	return []api.Cmd{
		{}, {ID: 15}, {ID: 25}, {ID: lastName + 1}, {ID: mostNumber}, {ID: 17, Kind: 3}, {ID: 17, Symbol: 4}, {ID: 17, Target: 33},
		{ID: 17, Side: 2}, {ID: 17, Price: 1<<20 + 1}, {ID: 17, Qty: 1<<20 + 1}, {ID: 17, Kind: api.Cancel},
		{ID: 17, Kind: api.Cancel, Target: 33, Qty: 1}, {ID: 17, Kind: api.Amend, Target: 33, Price: 1},
	}
}

// rows are those of the table: a sort's word, and what it has, a letter each: v is V with a timestamp, p V with a set
// and T 0, g Flag, s S, f F, b AB, a A.
var rows = [sortsInAll]struct{ word, has string }{
	{"propose", "v g"}, {"okay", "v g"}, {"refuse", "v s"}, {"prepare", ""}, {"promise", "p s g f b a"},
	{"accept", "v"}, {"accepted", ""}, {"stable", "v"}, {"reject", "b"},
}

// plain is a message of a sort with just what all have.
func plain(s api.Sort) api.Msg {
	return api.Msg{Sort: s, From: 3, To: 1, Bal: 300, Cmd: place(17, 0, api.Buy, 5, 2)}
}

// full is a message of a sort that may be, with something of all that its row of the table has.
func full(s api.Sort) api.Msg {
	m := plain(s)
	for _, part := range rows[s].has {
		switch part {
		case 'v':
			m.V = value(56, some()...)
		case 'p':
			m.V = value(0, some()...)
		case 'g':
			m.Flag = true
		case 's':
			m.S = 1000
		case 'b':
			m.AB = 200
		case 'a':
			m.A = value(40, some()[1:]...)
		case 'f':
			m.F = value(35, some()[:2]...)
		}
	}
	return m
}

// bare is a message of a sort that may be, with as little as its row of the table must have.
func bare(s api.Sort) api.Msg {
	m := plain(s)
	for _, part := range rows[s].has {
		switch part {
		case 'v':
			m.V.T = leastStamp
		case 's':
			m.S = leastStamp
		}
	}
	return m
}

// bytesOf is the bytes of numbers as another package writes them, whatever numbers from 0 on they are.
func bytesOf(n ...int) []byte {
	b := []byte{}
	for _, x := range n {
		b = binary.AppendUvarint(b, uint64(x))
	}
	return b
}

func cmdBytes(c api.Cmd) []byte {
	return bytesOf(c.ID, int(c.Kind), c.Symbol, c.Target, int(c.Side), c.Price, c.Qty)
}

func valueBytes(v api.Value) []byte {
	b := bytesOf(v.T, len(v.P))
	for _, c := range v.P {
		b = append(b, cmdBytes(c)...)
	}
	return b
}

// withFlag is the bytes of a message whose numbers are from 0 on, whether it may be or not, with any number as its
// Flag.
func withFlag(m api.Msg, flag int) []byte {
	return slices.Concat(bytesOf(int(m.Sort), m.From, m.To, m.Bal), cmdBytes(m.Cmd), valueBytes(m.V),
		bytesOf(flag, m.S, m.AB), valueBytes(m.A), valueBytes(m.F))
}

func bytesOfMsg(m api.Msg) []byte {
	if m.Flag {
		return withFlag(m, 1)
	}
	return withFlag(m, 0)
}

// numbered tells whether all numbers of a message are such that there are bytes for each of them.
func numbered(m api.Msg) bool {
	l := []int{int(m.Sort), m.From, m.To, m.Bal, m.V.T, m.S, m.AB, m.A.T, m.F.T}
	for _, c := range slices.Concat([]api.Cmd{m.Cmd}, m.V.P, m.A.P, m.F.P) {
		l = append(l, c.ID, int(c.Kind), c.Symbol, c.Target, int(c.Side), c.Price, c.Qty)
	}
	return slices.Min(l) >= 0
}

// short is how something is printed, but no more than its beginning, as a set may be long.
func short(x any) string {
	s := fmt.Sprintf("%+v", x)
	return s[:min(len(s), 500)]
}

// check looks at all that is told of a message that may be, or may not be.
func check(t *testing.T, m api.Msg, may bool) {
	t.Helper()
	if wire.Right(m) != may {
		t.Fatalf("Right(%s): not %t", short(m), may)
	}
	b, err := wire.Encode(m)
	if may && (err != api.OK || !bytes.Equal(b, bytesOfMsg(m))) {
		t.Fatalf("Encode(%s): %v %d", short(m), b, err)
	}
	if !may && (err != api.ErrArg || len(b) != 0) {
		t.Fatalf("Encode(%s): %v %d", short(m), b, err)
	}
	if !numbered(m) {
		return
	}
	got, err := wire.Decode(bytesOfMsg(m))
	if may && (err != api.OK || !wire.Same(got, m) || !alike(got, m)) {
		t.Fatalf("Decode of %s: %s %d", short(m), short(got), err)
	}
	if !may && (err != api.ErrForm || !alike(got, api.Msg{})) {
		t.Fatalf("Decode of %s: %s %d", short(m), short(got), err)
	}
}

// alike tells whether two messages have the same parts, a list without elements being one with nil.
func alike(a, b api.Msg) bool {
	for _, p := range []*[]api.Cmd{&a.V.P, &a.A.P, &a.F.P, &b.V.P, &b.A.P, &b.F.P} {
		if len(*p) == 0 {
			*p = nil
		}
	}
	return reflect.DeepEqual(a, b)
}

// TestWords is P5.1 (W1): the nine words, and nothing of what is no sort.
func TestWords(t *testing.T) {
	for s, row := range rows {
		if got := wire.Name(api.Sort(s)); got != row.word {
			t.Errorf("Name(%d): %q", s, got)
		}
	}
	for _, s := range []api.Sort{-1, -2, 9, 10, 16, 255, 256, 1 << 32, math.MaxInt, math.MinInt} {
		if got := wire.Name(s); got != "" {
			t.Errorf("Name(%d): %q", s, got)
		}
	}
}

// TestBytes is P5.1 (W1): bytes that are written out here.
func TestBytes(t *testing.T) {
	c := api.Cmd{ID: 17, Price: 5, Qty: 2}
	for _, x := range []struct {
		m    api.Msg
		want []byte
	}{
		{api.Msg{Sort: api.Propose, From: 1, To: 2, Cmd: c, V: api.Value{T: 33}, Flag: true}, []byte{0, 1, 2, 0, 17, 0, 0, 0, 0, 5, 2, 33, 0, 1, 0, 0, 0, 0, 0, 0}},
		{api.Msg{Sort: api.Prepare, From: 8, To: 0, Bal: 300, Cmd: cancel(33, 1, 17)}, []byte{3, 8, 0, 172, 2, 33, 1, 1, 17, 0, 0, 0, 0, 0, 0, 0, 0, 0, 0, 0, 0}},
		{
			api.Msg{Sort: api.Promise, From: 2, To: 1, Bal: 3, Cmd: c, V: api.Value{P: []api.Cmd{cancel(33, 1, 17)}}, Flag: true, S: 56, AB: 1, A: api.Value{T: 48}, F: api.Value{T: 18, P: []api.Cmd{c}}},
			[]byte{4, 2, 1, 3, 17, 0, 0, 0, 0, 5, 2, 0, 1, 33, 1, 1, 17, 0, 0, 0, 1, 56, 1, 48, 0, 18, 1, 17, 0, 0, 0, 0, 5, 2},
		},
		{api.Msg{Sort: api.Reject, From: 0, To: 8, Bal: 2, Cmd: c, AB: 1 << 20}, []byte{8, 0, 8, 2, 17, 0, 0, 0, 0, 5, 2, 0, 0, 0, 0, 128, 128, 64, 0, 0, 0, 0}},
	} {
		if b, err := wire.Encode(x.m); !bytes.Equal(b, x.want) || err != api.OK {
			t.Errorf("%s: %v %d", short(x.m), b, err)
		}
		if m, err := wire.Decode(x.want); !alike(m, x.m) || err != api.OK {
			t.Errorf("%v: %s %d", x.want, short(m), err)
		}
	}
}

// TestSorts is P5.1 (W1), P5.2: messages of each sort, with all that it has, and with as little as it must have; with
// sets as great as can be, and with sets without commands.
func TestSorts(t *testing.T) {
	for s := range api.Sort(sortsInAll) {
		check(t, full(s), true)
		check(t, bare(s), true)
		m := full(s)
		for _, v := range []*api.Value{&m.V, &m.A, &m.F} {
			if len(v.P) > 0 {
				v.P = first(mostPreds)
			}
		}
		check(t, m, true)
		for _, v := range []*api.Value{&m.V, &m.A, &m.F} {
			if len(v.P) > 0 {
				v.P = []api.Cmd{}
			}
		}
		check(t, m, true)
	}
}

// TestNoSort is P5.1 (W1): what is none of the nine may not be, whatever it has.
func TestNoSort(t *testing.T) {
	for _, none := range []api.Sort{-1, 9, 10, 17, 128, 256, mostNumber, math.MaxInt, math.MinInt} {
		for s := range api.Sort(sortsInAll) {
			for _, m := range []api.Msg{full(s), bare(s)} {
				m.Sort = none
				check(t, m, false)
			}
		}
	}
}

// TestHead is P5.1 (W1): From, To and Bal at their edges, and beyond each, of all sorts.
func TestHead(t *testing.T) {
	numbers := []int{math.MinInt, -1, 0, 1, 7, 8, 9, 15, 16, 128, 1<<20 - 1, 1 << 20, 1<<20 + 1, 1 << 32, mostNumber, math.MaxInt}
	for s := range api.Sort(sortsInAll) {
		for _, n := range numbers {
			replica, ballot := 0 <= n && n <= lastReplica, 0 <= n && n <= mostBallot
			m := full(s)
			m.From = n
			check(t, m, replica)
			m = full(s)
			m.To = n
			check(t, m, replica)
			m = full(s)
			m.Bal = n
			check(t, m, ballot)
		}
	}
}

// TestCommand is P5.1 (W1): of all sorts, a command that may be, of each kind, and one that may not be.
func TestCommand(t *testing.T) {
	for s := range api.Sort(sortsInAll) {
		for _, c := range append(some(), first(1)...) {
			m := full(s)
			m.Cmd = c
			check(t, m, true)
		}
		for _, c := range append(badCmds(), api.Cmd{ID: -17}, api.Cmd{ID: 17, Qty: -1}, api.Cmd{ID: 17, Side: -1}) {
			m := full(s)
			m.Cmd = c
			check(t, m, false)
		}
	}
}

// isStamp tells whether t is a timestamp, by its own rule.
func isStamp(t int) bool { return t >= leastStamp && t <= lastStamp && t%16 <= 8 }

// TestParts is P5.1 (W1): of each sort all that it has or has not, each at its edges, with all edges of all others:
// just what the table says may be.
func TestParts(t *testing.T) {
	lists := [][]api.Cmd{nil, some(), {cancel(33, 0, 17), place(17, 0, api.Buy, 5, 2)}}
	sets := []bool{true, true, false}
	times := []int{0, 15, leastStamp, 57}
	count := 0
	for s := range api.Sort(sortsInAll) {
		for _, at := range times {
			for i, list := range lists {
				for _, over := range parts() {
					m := over
					head := plain(s)
					m.Sort, m.From, m.To, m.Bal, m.Cmd = s, head.From, head.To, head.Bal, head.Cmd
					m.V = value(at, list...)
					may := mayHave(rows[s].has, m, sets[i])
					check(t, m, may)
					if may {
						count++
					}
				}
			}
		}
	}
	// Of propose, okay: V 2 ways, Flag 2. Of refuse: V 2, S 1. Of promise: V 2, S 1, Flag 2, AB 3, A 3, F 3. Of accept,
	// stable: V 2. Of reject: AB 3. Of the two others 1.
	if want := 2*2*2 + 2*1 + 2*1*2*3*3*3 + 2*2 + 3 + 2; count != want {
		t.Errorf("%d may be, not %d", count, want)
	}
}

// parts are messages with nothing but Flag, S, AB, A and F, in all ways of which each is at an edge.
func parts() []api.Msg {
	wrong := []api.Cmd{cancel(33, 0, 17), place(17, 0, api.Buy, 5, 2)}
	values := []api.Value{{}, {T: lastStamp}, {T: 40, P: some()}, {P: some()}, {T: 15}, {T: 40, P: wrong}}
	var l []api.Msg
	for _, flag := range []bool{false, true} {
		for _, s := range []int{0, leastStamp, 25} {
			for _, ab := range []int{-1, 0, 1, mostBallot, mostBallot + 1} {
				for _, a := range values {
					for _, f := range values {
						l = append(l, api.Msg{Flag: flag, S: s, AB: ab, A: a, F: f})
					}
				}
			}
		}
	}
	return l
}

// mayHave tells whether a message may have what it has by a row of the table; set tells whether V's P is one.
func mayHave(has string, m api.Msg, set bool) bool {
	letters := map[rune]bool{}
	for _, letter := range has {
		letters[letter] = true
	}
	// Of A and F those of parts that have a timestamp of their own, and a set, are its second and third ones.
	fine := func(v api.Value) bool { return v.T == lastStamp || v.T == 40 && len(v.P) == len(some()) }
	nothing := func(v api.Value) bool { return v.T == 0 && len(v.P) == 0 }
	v := nothing(m.V)
	if letters['v'] {
		v = isStamp(m.V.T) && set
	} else if letters['p'] {
		v = m.V.T == 0 && set
	}
	return v && (letters['g'] || !m.Flag) && letters['s'] == isStamp(m.S) && (letters['s'] || m.S == 0) &&
		m.AB >= 0 && m.AB <= mostBallot && (letters['b'] || m.AB == 0) &&
		(nothing(m.A) || letters['a'] && fine(m.A)) && (nothing(m.F) || letters['f'] && fine(m.F))
}

// TestTimes is P5.1 (W1): each timestamp of each sort at what is one, and what is none.
func TestTimes(t *testing.T) {
	times := []int{math.MinInt, -16, -1, 0, 1, 15, 16, 17, 24, 25, 31, 32, 57, 1<<20 - 16, lastStamp, lastStamp + 1, 1 << 20, 1<<20 + 16, 1 << 32, mostNumber, math.MaxInt - 15}
	for s := range api.Sort(sortsInAll) {
		for _, at := range times {
			has := rows[s].has
			m := full(s)
			m.V.T = at
			if len(m.V.P) > 0 || at != 0 {
				check(t, m, has != "" && has[0] == 'v' && isStamp(at) || s == api.Promise && at == 0)
			}
			m = full(s)
			m.S = at
			check(t, m, (s == api.Promise || s == api.Refuse) && isStamp(at) || s != api.Promise && s != api.Refuse && at == 0)
			for _, p := range [][]api.Cmd{nil, some()} {
				may := s == api.Promise && isStamp(at) || at == 0 && len(p) == 0
				m = full(s)
				m.A = value(at, p...)
				check(t, m, may)
				m = full(s)
				m.F = value(at, p...)
				check(t, m, may)
			}
		}
	}
}

// TestBallotAccepted is P5.1 (W1): AB at its edges, and beyond each, with something that was accepted and without.
func TestBallotAccepted(t *testing.T) {
	for s := range api.Sort(sortsInAll) {
		for _, ab := range []int{math.MinInt, -1, 0, 1, 2, mostBallot - 1, mostBallot, mostBallot + 1, mostNumber, math.MaxInt} {
			for _, m := range []api.Msg{full(s), bare(s)} {
				m.AB = ab
				has := s == api.Promise || s == api.Reject
				check(t, m, has && 0 <= ab && ab <= mostBallot || ab == 0)
			}
		}
	}
}

// TestNoSet is P5.1 (W1): a P that is no set, wherever one stands.
func TestNoSet(t *testing.T) {
	for s := range api.Sort(sortsInAll) {
		for _, p := range notSets() {
			for _, at := range []int{0, 56} {
				m := full(s)
				m.V = value(at, p...)
				check(t, m, false)
				m = full(s)
				m.A = value(at, p...)
				check(t, m, false)
				m = full(s)
				m.F = value(at, p...)
				check(t, m, false)
			}
		}
	}
}

// TestNoFlag is P5.1 (W1): a Flag that is neither 0 nor 1, and one that a sort must not have.
func TestNoFlag(t *testing.T) {
	for s := range api.Sort(sortsInAll) {
		for _, m := range []api.Msg{full(s), bare(s)} {
			for _, flag := range []int{0, 1, 2, 3, 127, 128, 129, 256, 257, 1 << 32, 1<<32 + 1, mostNumber} {
				has := s == api.Propose || s == api.Okay || s == api.Promise
				want := api.ErrForm
				if flag == 0 || flag == 1 && has {
					want = api.OK
				}
				got, err := wire.Decode(withFlag(m, flag))
				if err != want || err != api.OK && !alike(got, api.Msg{}) || err == api.OK && got.Flag != (flag == 1) {
					t.Errorf("%d with Flag %d: %s %d", s, flag, short(got), err)
				}
			}
		}
	}
}

// wrong tells whether it is told that bytes are no message's, and nothing beside.
func wrong(t *testing.T, b []byte) {
	t.Helper()
	if m, err := wire.Decode(b); err != api.ErrForm || !alike(m, api.Msg{}) {
		t.Fatalf("%v: %s %d", b, short(m), err)
	}
}

// TestNoBytes is P5.1 (W1): bytes that end in the middle, that have more behind the message's own, that begin with
// others, with a number of more bytes than it needs, or of too many.
func TestNoBytes(t *testing.T) {
	for s := range api.Sort(sortsInAll) {
		for _, m := range []api.Msg{full(s), bare(s)} {
			b := bytesOfMsg(m)
			for n := range b {
				wrong(t, b[:n])
				wrong(t, slices.Concat(b[:n], []byte{b[n] | 128, 0}, b[n+1:]))
				wrong(t, slices.Concat(b[:n], slices.Repeat([]byte{255}, 9), b[n:]))
				wrong(t, slices.Concat(b[:n], slices.Repeat([]byte{255}, len(b)-n)))
			}
			for _, more := range [][]byte{{0}, {1}, {128}, {0, 0}, {0, 0, 0, 0}, b, make([]byte, 1000)} {
				wrong(t, slices.Concat(b, more))
			}
			wrong(t, slices.Concat([]byte{0}, b))
			wrong(t, b[1:])
		}
	}
	for _, b := range [][]byte{nil, {}, {0}, {8}, {128}, make([]byte, 20), make([]byte, 21), slices.Repeat([]byte{16}, 40), slices.Repeat([]byte{255}, 100)} {
		wrong(t, b)
	}
}

// variants are a message, and others each of which differs from it in one part alone.
func variants(m api.Msg) []api.Msg {
	l := []api.Msg{m}
	add := func(change func(*api.Msg)) {
		other := m
		for _, v := range []*api.Value{&other.V, &other.A, &other.F} {
			v.P = slices.Clone(v.P)
		}
		change(&other)
		l = append(l, other)
	}
	add(func(m *api.Msg) { m.Sort += 20 })
	add(func(m *api.Msg) { m.From++ })
	add(func(m *api.Msg) { m.To++ })
	add(func(m *api.Msg) { m.Bal-- })
	add(func(m *api.Msg) { m.Flag = !m.Flag })
	add(func(m *api.Msg) { m.S++ })
	add(func(m *api.Msg) { m.AB-- })
	for _, of := range []func(*api.Cmd){
		func(c *api.Cmd) { c.ID++ }, func(c *api.Cmd) { c.Kind++ }, func(c *api.Cmd) { c.Symbol++ }, func(c *api.Cmd) { c.Target++ },
		func(c *api.Cmd) { c.Side++ }, func(c *api.Cmd) { c.Price-- }, func(c *api.Cmd) { c.Qty++ },
	} {
		add(func(m *api.Msg) { of(&m.Cmd) })
		for _, part := range []func(*api.Msg) *api.Value{
			func(m *api.Msg) *api.Value { return &m.V }, func(m *api.Msg) *api.Value { return &m.A }, func(m *api.Msg) *api.Value { return &m.F },
		} {
			if len(part(&m).P) > 0 {
				add(func(m *api.Msg) { p := part(m).P; of(&p[len(p)-1]) })
			}
		}
	}
	for _, part := range []func(*api.Msg) *api.Value{
		func(m *api.Msg) *api.Value { return &m.V }, func(m *api.Msg) *api.Value { return &m.A }, func(m *api.Msg) *api.Value { return &m.F },
	} {
		add(func(m *api.Msg) { part(m).T++ })
		add(func(m *api.Msg) { part(m).P = append(part(m).P, place(lastName, 0, api.Buy, 1, 1)) })
		if len(part(&m).P) > 1 {
			add(func(m *api.Msg) { part(m).P = part(m).P[1:] })
			add(func(m *api.Msg) { p := part(m).P; p[0], p[1] = p[1], p[0] })
		}
	}
	return l
}

// TestSame is P5.1 (W1): a message is the same as one with the same parts, in memory of its own, and as none with
// another part, whether it may be or not.
func TestSame(t *testing.T) {
	for s := range api.Sort(sortsInAll) {
		for _, m := range []api.Msg{full(s), bare(s), {}, {Sort: s, V: full(api.Promise).V, A: full(api.Promise).A, F: full(api.Promise).F}} {
			l, again := variants(m), variants(m)
			for i := range l {
				for j := range again {
					if got := wire.Same(l[i], again[j]); got != alike(l[i], again[j]) {
						t.Errorf("Same(%s, %s): %t", short(l[i]), short(again[j]), got)
					}
				}
				if !wire.Same(l[i], again[i]) || i > 0 && (wire.Same(l[0], again[i]) || wire.Same(again[i], l[0])) {
					t.Errorf("%d of %s", i, short(m))
				}
			}
		}
	}
	for s := range api.Sort(sortsInAll) {
		for r := range api.Sort(sortsInAll) {
			a, b := plain(s), plain(r)
			if wire.Same(a, b) != (s == r) {
				t.Errorf("Same of %d and %d", s, r)
			}
		}
	}
}

// TestSameNothing is P5.1 (W1), rule 6: a set without commands is the same, nil or not.
func TestSameNothing(t *testing.T) {
	a := bare(api.Promise)
	b := a
	b.V.P, b.A.P, b.F.P = []api.Cmd{}, make([]api.Cmd, 0, 5), some()[:0]
	if !wire.Same(a, b) || !wire.Same(b, a) || !wire.Right(b) {
		t.Error("a set without commands is another one, nil or not")
	}
	x, e := wire.Encode(a)
	y, f := wire.Encode(b)
	if e != api.OK || f != api.OK || !bytes.Equal(x, y) {
		t.Errorf("%v %d, %v %d", x, e, y, f)
	}
}

// TestMemory is rule 4: what is handed in is neither written into nor kept, what lies behind it is left alone, and what
// is answered is one's own.
func TestMemory(t *testing.T) {
	row := some()
	m := full(api.Promise)
	m.V.P, m.A.P, m.F.P = row[:2], row[:1], row[:2]
	b, err := wire.Encode(m)
	if err != api.OK || !wire.Right(m) || !wire.Same(m, m) || !slices.Equal(row, some()) {
		t.Fatalf("written into: %v %d", row, err)
	}
	want := slices.Clone(b)
	again, _ := wire.Encode(m)
	clear(again)
	_ = append(b[:0:cap(b)], slices.Repeat([]byte{9}, cap(b))...)
	if third, _ := wire.Encode(m); !bytes.Equal(third, want) {
		t.Errorf("kept: %v", third)
	}
	all := slices.Concat(want, []byte{7, 7})
	got, err := wire.Decode(all[:len(want)])
	if err != api.OK || !bytes.Equal(all, slices.Concat(want, []byte{7, 7})) {
		t.Fatalf("written into: %v %d", all, err)
	}
	clear(all)
	if !alike(got, m) {
		t.Errorf("kept: %s", short(got))
	}
	lists := [][]api.Cmd{got.V.P, got.A.P, got.F.P}
	for i, l := range lists {
		l = l[:cap(l)]
		clear(l)
		for j, other := range lists {
			if j > i && !slices.Equal(other, row[:len(other)]) {
				t.Errorf("%d shares with %d: %v", i, j, other)
			}
		}
	}
}

// someSet is a set, the same one for the same source.
func someSet(from *rand.Rand, most int) []api.Cmd {
	var l []api.Cmd
	for range from.Intn(most + 1) {
		l = append(l, someCmd(from))
	}
	slices.SortFunc(l, func(a, b api.Cmd) int { return a.ID - b.ID })
	return slices.CompactFunc(l, func(a, b api.Cmd) bool { return a.ID == b.ID })
}

func someCmd(from *rand.Rand) api.Cmd {
	id, _ := cmd.Name(1+from.Intn(256), from.Intn(9))
	target, _ := cmd.Name(1+from.Intn(256), from.Intn(9))
	few := func() int { return from.Intn(1<<20+1) >> from.Intn(20) }
	return []api.Cmd{place(id, from.Intn(4), api.Side(from.Intn(2)), few(), few()), cancel(id, from.Intn(4), target), amend(id, from.Intn(4), target, few())}[from.Intn(3)]
}

func someStamp(from *rand.Rand) int { return 16*(1+from.Intn(65535)>>from.Intn(16)) + from.Intn(9) }

// someMsg is a message that may be, the same one for the same source.
func someMsg(from *rand.Rand) api.Msg {
	ballot := func() int { return from.Intn(mostBallot+1) >> from.Intn(21) }
	m := api.Msg{Sort: api.Sort(from.Intn(9)), From: from.Intn(9), To: from.Intn(9), Bal: ballot(), Cmd: someCmd(from)}
	for _, part := range rows[m.Sort].has {
		switch part {
		case 'v':
			m.V = value(someStamp(from), someSet(from, 5)...)
		case 'p':
			m.V = value(0, someSet(from, 5)...)
		case 'g':
			m.Flag = from.Intn(2) > 0
		case 's':
			m.S = someStamp(from)
		case 'b':
			m.AB = ballot()
		case 'a':
			if from.Intn(3) > 0 {
				m.A = value(someStamp(from), someSet(from, 3)...)
			}
		case 'f':
			if from.Intn(3) > 0 {
				m.F = value(someStamp(from), someSet(from, 3)...)
			}
		}
	}
	return m
}

// TestThereAndBack is P5.2: a message is decoded from its bytes.
func TestThereAndBack(t *testing.T) {
	from := rand.New(rand.NewSource(14))
	for range 5000 {
		check(t, someMsg(from), true)
	}
}

// TestOnlyBytes is P5.2: whatever bytes a message is decoded from, it may be, and has them. The bytes are right ones
// with a few changed, put in, or gone.
func TestOnlyBytes(t *testing.T) {
	from := rand.New(rand.NewSource(15))
	edges := []byte{0, 1, 2, 8, 9, 16, 17, 32, 33, 127, 128, 129, 255}
	taken := [2][sortsInAll]int{}
	for range 60000 {
		b := bytesOfMsg(someMsg(from))
		changes := from.Intn(3)
		for range changes {
			at := from.Intn(len(b) + 1)
			b = slices.Concat(b[:at], []byte{edges[from.Intn(len(edges))]}, b[min(len(b), at+from.Intn(3)):])
		}
		m, err := wire.Decode(b)
		if err != api.OK {
			wrong(t, b)
			continue
		}
		taken[min(changes, 1)][m.Sort]++
		if again, err := wire.Encode(m); err != api.OK || !bytes.Equal(again, b) || !wire.Right(m) {
			t.Fatalf("%v: %s, %v %d", b, short(m), again, err)
		}
	}
	for s := range sortsInAll {
		if taken[0][s] < 1000 || taken[1][s] < 100 {
			t.Errorf("taken only %v times", taken)
		}
	}
}

// TestWhateverIsAsked is P1 and P2: every call ends, at whatever it is given, and answers the same when it is asked
// again, with others asked between.
func TestWhateverIsAsked(t *testing.T) {
	numbers := []int{math.MinInt, -mostNumber, -1, 0, 1, 5, 8, 9, 16, 17, 33, 256, 4104, 1 << 20, 1<<20 + 1, 1 << 40, 1<<40 + 1, 1 << 62, math.MaxInt}
	from := rand.New(rand.NewSource(16))
	pick := func() int { return numbers[from.Intn(len(numbers))] }
	list := func() []api.Cmd {
		l := make([]api.Cmd, from.Intn(3))
		for i := range l {
			l[i] = api.Cmd{ID: pick(), Kind: api.Kind(pick()), Symbol: pick(), Target: pick(), Side: api.Side(pick()), Price: pick(), Qty: pick()}
		}
		return l
	}
	tell := func(m api.Msg, b []byte) string {
		x, e := wire.Encode(m)
		y, f := wire.Decode(b)
		if e != api.OK && len(x) > 0 || f != api.OK && !alike(y, api.Msg{}) {
			t.Fatalf("%s: %v %d; %v: %s %d", short(m), x, e, b, short(y), f)
		}
		return fmt.Sprint(wire.Right(m), wire.Same(m, y), wire.Same(m, m), x, e, y, f, wire.Name(m.Sort))
	}
	for range 20000 {
		m := full(api.Sort(from.Intn(sortsInAll)))
		for range 1 + from.Intn(3) {
			switch from.Intn(9) {
			case 0:
				m.Sort = api.Sort(pick())
			case 1:
				m.From, m.To = pick(), pick()
			case 2:
				m.Bal = pick()
			case 3:
				m.Cmd = append(list(), api.Cmd{})[0]
			case 4:
				m.V = api.Value{T: pick(), P: list()}
			case 5:
				m.Flag = !m.Flag
			case 6:
				m.S, m.AB = pick(), pick()
			case 7:
				m.A = api.Value{T: pick(), P: list()}
			case 8:
				m.F = api.Value{T: pick(), P: list()}
			}
		}
		b := make([]byte, from.Intn(60))
		for i := range b {
			b[i] = byte(from.Intn(256)) >> from.Intn(8)
		}
		told := tell(m, b)
		tell(someMsg(from), bytesOfMsg(someMsg(from)))
		if again := tell(m, b); again != told {
			t.Fatalf("%s, %v: %s, then %s", short(m), b, told, again)
		}
	}
}
