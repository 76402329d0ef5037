package net_test

import (
	"bytes"
	"fmt"
	"math"
	"math/rand"
	"slices"
	"testing"

	"lictor/api"
	"lictor/net"
)

const most = 4096

// fresh is an empty net with so much room.
func fresh(t *testing.T, room int) *net.Net {
	t.Helper()
	n, err := net.New(room)
	if n == nil || err != api.OK {
		t.Fatalf("room %d: %v %d", room, n, err)
	}
	return n
}

// frames are the texts' bytes, each in memory of its own.
func frames(l ...string) [][]byte {
	var all [][]byte
	for _, s := range l {
		all = append(all, []byte(s))
	}
	return all
}

// row are the numbers from one to below another, as texts.
func row(from, to int) []string {
	var all []string
	for i := from; i < to; i++ {
		all = append(all, fmt.Sprint("frame ", i))
	}
	return all
}

// send sends the texts' bytes, and checks how many were.
func send(t *testing.T, n *net.Net, want int, l ...string) {
	t.Helper()
	if got := n.Send(frames(l...)...); got != want {
		t.Fatalf("%d of %d were sent, not %d", got, len(l), want)
	}
}

// holding is a net of so much room, with these frames.
func holding(t *testing.T, room int, l ...string) *net.Net {
	t.Helper()
	n := fresh(t, room)
	send(t, n, len(l), l...)
	return n
}

// take takes the frame at a place, and checks which that is.
func take(t *testing.T, n *net.Net, i int, want string) {
	t.Helper()
	if b, ok := n.Take(i); !ok || string(b) != want {
		t.Fatalf("taken at %d: %q %v, not %q", i, b, ok, want)
	}
}

// check tells whether a net has just these frames, in order, none at another place, and has lost so many.
func check(t *testing.T, n *net.Net, lost int, want ...string) {
	t.Helper()
	if n.Len() != len(want) || n.Lost() != lost {
		t.Fatalf("%d frames, %d lost; not %d, %d", n.Len(), n.Lost(), len(want), lost)
	}
	for i, s := range want {
		if b, ok := n.At(i); !ok || string(b) != s {
			t.Fatalf("at %d: %q %v, not %q", i, b, ok, s)
		}
	}
	for _, i := range nowhere(len(want)) {
		if b, ok := n.At(i); ok || b != nil {
			t.Fatalf("at %d, of %d: %q %v", i, len(want), b, ok)
		}
	}
}

// nowhere are places at which a net of so many frames has none.
func nowhere(many int) []int {
	return []int{math.MinInt, math.MinInt + 1, -1 << 32, -most, -2, -1, many, many + 1, many + 2, 2*many + 1, most + many, 1 << 32, 1<<32 + many, math.MaxInt - 1, math.MaxInt}
}

// TestNew is P10.1 (A1): a net has room for 1 frame to 4096, and is empty; else ErrArg.
func TestNew(t *testing.T) {
	if net.MostRoom != most {
		t.Errorf("MostRoom: %d", net.MostRoom)
	}
	for room := 1; room <= most; room++ {
		check(t, fresh(t, room), 0)
	}
	for _, room := range []int{0, -1, -2, -most, -most - 1, most + 1, most + 2, 2 * most, 1 << 32, 1<<32 + 1, 1<<32 + most, 1 << 40, math.MinInt, math.MinInt + 1, math.MaxInt} {
		if n, err := net.New(room); n != nil || err != api.ErrArg {
			t.Errorf("room %d: %v %d", room, n, err)
		}
	}
}

// TestSend is P10.1 (A1): frames stand behind all others, in order; none, one, and several.
func TestSend(t *testing.T) {
	n := fresh(t, 6)
	if got := n.Send(); got != 0 {
		t.Errorf("no frame: %d", got)
	}
	if got := n.Send(nil...); got != 0 {
		t.Errorf("no frame of a nil list: %d", got)
	}
	if got := n.Send([][]byte{}...); got != 0 {
		t.Errorf("no frame of an empty list: %d", got)
	}
	check(t, n, 0)
	send(t, n, 1, "a")
	check(t, n, 0, "a")
	send(t, n, 3, "z", "b", "y")
	check(t, n, 0, "a", "z", "b", "y")
	send(t, n, 0)
	check(t, n, 0, "a", "z", "b", "y")
	send(t, n, 1, "c")
	check(t, n, 0, "a", "z", "b", "y", "c")
	if got := n.Send([]byte("d")); got != 1 {
		t.Errorf("the last one there is room for: %d", got)
	}
	check(t, n, 0, "a", "z", "b", "y", "c", "d")
}

// TestRoom is P10.1 (A1): of any number of frames, sent to a net of any room with any number in it, the first ones are
// put there, as long as there is room; those for which there is none are counted, and only these.
func TestRoom(t *testing.T) {
	for room := 1; room <= 7; room++ {
		for has := range room + 1 {
			for more := range 2*room + 3 {
				n := holding(t, room, row(0, has)...)
				fit := min(more, room-has)
				send(t, n, fit, row(has, has+more)...)
				check(t, n, more-fit, row(0, has+fit)...)
				send(t, n, 0)
				check(t, n, more-fit, row(0, has+fit)...)
				rest := room - has - fit
				send(t, n, rest, row(has+fit, room+2)...)
				check(t, n, more-fit+2, row(0, room)...)
			}
		}
	}
}

// TestFull is P10.1 (A1): a full net takes none, and each that it doesn't take is lost, however they are sent.
func TestFull(t *testing.T) {
	n := holding(t, 3, "a", "b", "c")
	check(t, n, 0, "a", "b", "c")
	send(t, n, 0)
	check(t, n, 0, "a", "b", "c")
	send(t, n, 0, "d")
	check(t, n, 1, "a", "b", "c")
	send(t, n, 0, "", "")
	check(t, n, 3, "a", "b", "c")
	if got := n.Send(nil, nil); got != 0 {
		t.Errorf("two nil frames: %d", got)
	}
	check(t, n, 5, "a", "b", "c")
	send(t, n, 0, row(0, 100)...)
	check(t, n, 105, "a", "b", "c")
	one := fresh(t, 1)
	for i := range 10 {
		if got := one.Send([]byte{byte(i)}); got != 1-min(i, 1) {
			t.Errorf("frame %d: %d", i, got)
		}
		check(t, one, i, "\x00")
	}
}

// TestMost is P10.1 (A1): a net with all the room there may be, filled to its last frame, at once and one by one.
func TestMost(t *testing.T) {
	all := row(0, most)
	n := fresh(t, most)
	send(t, n, most-1, all[:most-1]...)
	check(t, n, 0, all[:most-1]...)
	send(t, n, 1, all[most-1], "more", "and more")
	check(t, n, 2, all...)
	if n.Double(most - 1) {
		t.Error("doubled where there is no room")
	}
	take(t, n, most-1, all[most-1])
	take(t, n, 0, all[0])
	take(t, n, 2000, all[2001])
	want := slices.Concat(all[1:2001], all[2002:most-1])
	check(t, n, 2, want...)
	if !n.Double(most - 4) {
		t.Error("not doubled")
	}
	send(t, n, 2, "x", "y", "z")
	want = append(want, all[most-2], "x", "y")
	check(t, n, 3, want...)

	one := fresh(t, most)
	for _, s := range all {
		send(t, one, 1, s)
	}
	send(t, one, 0, "more")
	check(t, one, 1, all...)
	for i := most - 1; i >= 0; i-- {
		take(t, one, i/2, all[i/2])
		all = slices.Delete(all, i/2, i/2+1)
	}
	check(t, one, 1)
}

// TestBytes is P10.1 (A1): frames of no bytes, nil ones, such with the same bytes, noughts, and long ones; each counts
// as one, and comes as it was sent.
func TestBytes(t *testing.T) {
	long := string(bytes.Repeat([]byte{0, 1, 255, 7}, 1<<18))
	n := fresh(t, 9)
	if got := n.Send(nil, []byte{}, []byte("a"), []byte("a")); got != 4 {
		t.Errorf("four: %d", got)
	}
	check(t, n, 0, "", "", "a", "a")
	send(t, n, 5, "\x00", "a\x00", "", long, "a", "a", "")
	check(t, n, 2, "", "", "a", "a", "\x00", "a\x00", "", long, "a")
	if !equal(n, 0, "") || !equal(n, 6, "") || n.Double(9) || n.Double(8) {
		t.Error("of a full net")
	}
	take(t, n, 7, long)
	take(t, n, 1, "")
	take(t, n, 2, "a")
	check(t, n, 2, "", "a", "\x00", "a\x00", "", "a")
	if !n.Double(0) || !n.Double(5) || !n.Double(3) {
		t.Error("not doubled")
	}
	want := []string{"", "a", "\x00", "a\x00", "", "a", "", "a", "a\x00"}
	check(t, n, 2, want...)
	for _, s := range want {
		take(t, n, 0, s)
	}
	check(t, n, 2)
}

// equal is whether there is a frame at a place, of these bytes.
func equal(n *net.Net, i int, s string) bool {
	b, ok := n.At(i)
	return ok && string(b) == s
}

// TestTake is P10.1 (A1): of a net of any number of frames that at any place, and that those ahead of it and behind it
// are left, in order; false, and nothing, where there is none.
func TestTake(t *testing.T) {
	for has := range 8 {
		all := row(0, has)
		for i := range has {
			n := holding(t, 8, all...)
			take(t, n, i, all[i])
			left := slices.Concat(all[:i], all[i+1:])
			check(t, n, 0, left...)
			if has < 2 {
				continue
			}
			for j := range left {
				m := holding(t, has, all...)
				take(t, m, i, all[i])
				take(t, m, j, left[j])
				check(t, m, 0, slices.Concat(left[:j], left[j+1:])...)
			}
		}
		n := holding(t, 8, all...)
		for _, i := range nowhere(has) {
			if b, ok := n.Take(i); ok || b != nil {
				t.Errorf("taken at %d, of %d: %q %v", i, has, b, ok)
			}
			check(t, n, 0, all...)
		}
		for i, s := range all {
			take(t, n, 0, s)
			check(t, n, 0, all[i+1:]...)
		}
		if b, ok := n.Take(0); ok || b != nil {
			t.Errorf("taken of an empty net: %q %v", b, ok)
		}
		for i := range all {
			send(t, n, 1, all[i])
		}
		for i := has - 1; i >= 0; i-- {
			take(t, n, i, all[i])
			check(t, n, 0, all[:i]...)
		}
	}
}

// TestTakeMakesRoom is P10.1 (A1): behind each that is taken there is room for one more, and that stands behind all; a
// take where there is none makes no room.
func TestTakeMakesRoom(t *testing.T) {
	for room := 1; room <= 6; room++ {
		for i := range room {
			n := holding(t, room, row(0, room)...)
			want := row(0, room)
			for k := range 3 * room {
				for _, j := range nowhere(room) {
					n.Take(j)
				}
				send(t, n, 0, "none")
				take(t, n, i, want[i])
				send(t, n, 1, fmt.Sprint(k), "none")
				want = append(slices.Delete(want, i, i+1), fmt.Sprint(k))
				check(t, n, 2*k+2, want...)
			}
			for range n.Len() {
				n.Take(n.Len() / 2)
			}
			send(t, n, room, row(50, 51+room)...)
			check(t, n, 6*room+1, row(50, 50+room)...)
		}
	}
}

// TestDouble is P10.1 (A1): one like that at any place stands behind all, and that one stays where it is; false, and
// nothing, where there is none, or no room; nothing is lost by it, ever.
func TestDouble(t *testing.T) {
	for has := range 7 {
		all := row(0, has)
		for i := range has {
			n := holding(t, has+2, all...)
			want := slices.Clone(all)
			for range 2 {
				if !n.Double(i) {
					t.Fatalf("at %d, of %d: not doubled", i, has)
				}
				want = append(want, all[i])
				check(t, n, 0, want...)
			}
			for k := range want {
				if n.Double(k) {
					t.Fatalf("at %d, of a full net of %d: doubled", k, len(want))
				}
				check(t, n, 0, want...)
			}
			take(t, n, has, all[i])
			if !n.Double(n.Len() - 1) {
				t.Fatalf("the double, of %d: not doubled", n.Len())
			}
			check(t, n, 0, want...)
			send(t, n, 0, "none")
			check(t, n, 1, want...)
		}
		for _, room := range []int{max(has, 1), 7} {
			n := holding(t, room, all...)
			for _, i := range nowhere(has) {
				if n.Double(i) {
					t.Fatalf("at %d, of %d: doubled", i, has)
				}
				check(t, n, 0, all...)
			}
		}
	}
	n := holding(t, 64, "a", "b")
	want := []string{"a", "b"}
	for len(want) < 64 {
		i := len(want) / 2
		if !n.Double(i) {
			t.Fatal("not doubled")
		}
		want = append(want, want[i])
	}
	check(t, n, 0, want...)
}

// TestAsked is P10.1 (A1): who asks changes nothing, however often: At, Len and Lost.
func TestAsked(t *testing.T) {
	n := holding(t, 3, "a", "b", "c")
	send(t, n, 0, "d", "e")
	for range 5 {
		check(t, n, 2, "a", "b", "c")
		for _, i := range append(nowhere(3), 0, 1, 2) {
			n.At(i)
		}
	}
	take(t, n, 1, "b")
	check(t, n, 2, "a", "c")
}

// TestLookedAt is rule 4: what is handed out to be read is the thing itself, each time.
func TestLookedAt(t *testing.T) {
	n := holding(t, 3, "a", "b", "c")
	for i := range 3 {
		one, _ := n.At(i)
		two, _ := n.At(i)
		if &one[0] != &two[0] {
			t.Errorf("at %d: two things", i)
		}
	}
}

// TestMemory is rule 4: what is handed in is neither kept nor written into, what lies behind it is neither read nor
// written; what is taken is one's own, also if its like is on its way, or was looked at.
func TestMemory(t *testing.T) {
	memory := []byte("one two three")
	list := [][]byte{memory[:3], memory[4:7], memory[8:]}
	n := fresh(t, 8)
	if n.Send(list[:2]...) != 2 || n.Send(list[2]) != 1 || !n.Double(0) || !n.Double(1) {
		t.Fatal("not sent")
	}
	take(t, n, 0, "one")
	if string(memory) != "one two three" || string(list[0]) != "one" || string(list[1]) != "two" || string(list[2]) != "three" {
		t.Errorf("written into: %q %q", memory, list)
	}
	want := []string{"two", "three", "one", "two"}
	clear(memory)
	check(t, n, 0, want...)
	clear(list)
	check(t, n, 0, want...)

	looked, _ := n.At(3)
	told, _ := n.Take(0)
	_ = append(told, 9, 9, 9)
	clear(told[:cap(told)])
	check(t, n, 0, want[1:]...)
	other, _ := n.At(2)
	last, _ := n.Take(2)
	clear(last)
	if string(looked) != "two" || string(other) != "two" {
		t.Errorf("what was looked at changed: %q %q", looked, other)
	}

	// What is on its way stays what was looked at, whatever else comes and goes.
	kept, _ := n.At(1)
	for range 20 {
		send(t, n, 6, "x", "y", "z", "x", "y", "z", "z")
		n.Double(0)
		for range n.Len() - 2 {
			n.Take(2)
		}
		n.Double(0)
		n.Take(2)
	}
	check(t, n, 20, "three", "one")
	take(t, n, 0, "three")
	take(t, n, 0, "one")
	send(t, n, 8, row(0, 8)...)
	if string(kept) != "one" {
		t.Errorf("what was looked at changed: %q", kept)
	}

	// Frames that were looked at, and taken, sent once more.
	first, _ := n.At(0)
	taken, _ := n.Take(1)
	if n.Send(taken) != 1 || n.Lost() != 20 {
		t.Error("not sent")
	}
	clear(taken)
	n.Take(1)
	if n.Send(first) != 1 {
		t.Error("not sent")
	}
	check(t, n, 20, "frame 0", "frame 3", "frame 4", "frame 5", "frame 6", "frame 7", "frame 1", "frame 0")
	again, _ := n.Take(7)
	clear(again)
	check(t, n, 20, "frame 0", "frame 3", "frame 4", "frame 5", "frame 6", "frame 7", "frame 1")
}

// TestOwnList is rule 4: a list with room behind its end isn't written there, and two nets, or two sends, of one list
// don't share it.
func TestOwnList(t *testing.T) {
	list := frames("a", "b", "c", "d")
	n, m := fresh(t, 4), fresh(t, 4)
	if n.Send(list[:1]...) != 1 || m.Send(list[:1]...) != 1 || n.Send([]byte("x")) != 1 || !m.Double(0) {
		t.Fatal("not sent")
	}
	for i, s := range []string{"a", "b", "c", "d"} {
		if string(list[i]) != s {
			t.Errorf("written behind: %q", list)
		}
	}
	check(t, n, 0, "a", "x")
	check(t, m, 0, "a", "a")
	if n.Send(list...) != 2 || n.Send(list...) != 0 || m.Send(list[1:]...) != 2 {
		t.Error("not sent")
	}
	take(t, n, 0, "a")
	check(t, n, 6, "x", "a", "b")
	check(t, m, 1, "a", "a", "b", "c")
	list[1][0] = 'z'
	check(t, n, 6, "x", "a", "b")
	check(t, m, 1, "a", "a", "b", "c")
}

// TestNil is P10.1 (A1) and rule 8: on a nil net 0, nothing, false, whatever it is given.
func TestNil(t *testing.T) {
	refused, _ := net.New(0)
	for _, n := range []*net.Net{nil, refused} {
		for _, l := range [][][]byte{nil, {}, {nil}, frames("a"), frames(row(0, 5000)...)} {
			if got := n.Send(l...); got != 0 {
				t.Errorf("Send of %d frames: %d", len(l), got)
			}
		}
		for _, i := range append(nowhere(0), 1, 7) {
			if b, ok := n.Take(i); b != nil || ok {
				t.Errorf("Take at %d: %q %v", i, b, ok)
			}
			if b, ok := n.At(i); b != nil || ok {
				t.Errorf("At %d: %q %v", i, b, ok)
			}
			if n.Double(i) {
				t.Errorf("Double at %d", i)
			}
		}
		if n.Len() != 0 || n.Lost() != 0 {
			t.Errorf("%d, %d lost", n.Len(), n.Lost())
		}
	}
}

// step is one of a net: with frames, or a place, or neither.
type step struct {
	what string
	i    int
	l    []string
}

// told is a net as the words have it: those that are there, in order, and how many were lost; and of each frame how often
// it was sent, or doubled, and how often taken.
type told struct {
	room, lost int
	there      []string
	put, taken map[string]int
}

func fromWords(room int) *told {
	return &told{room: room, put: map[string]int{}, taken: map[string]int{}}
}

// add puts a frame behind all others, if there is room.
func (w *told) add(s string) bool {
	if len(w.there) >= w.room {
		return false
	}
	w.there = append(w.there, s)
	w.put[s]++
	return true
}

func (w *told) send(l []string) int {
	sent := 0
	for _, s := range l {
		if w.add(s) {
			sent++
		} else {
			w.lost++
		}
	}
	return sent
}

// at is the frame at a place, and those at all others.
func (w *told) at(i int) (string, bool, []string) {
	var s string
	var ok bool
	var others []string
	for k, x := range w.there {
		if k == i {
			s, ok = x, true
		} else {
			others = append(others, x)
		}
	}
	return s, ok, others
}

// act takes a step on a net and on what the words have of it, and checks the one by the other: what is answered, what is
// there then, that Lost doesn't fall, and that none is taken oftener than it was sent, and doubled.
func act(t *testing.T, n *net.Net, w *told, s step) {
	t.Helper()
	was := n.Lost()
	switch s.what {
	case "send":
		if got, want := n.Send(frames(s.l...)...), w.send(s.l); got != want {
			t.Fatalf("%v: %d were sent, not %d", s, got, want)
		}
	case "take":
		x, want, others := w.at(s.i)
		b, ok := n.Take(s.i)
		if ok != want || string(b) != x {
			t.Fatalf("%v: %q %v, not %q %v", s, b, ok, x, want)
		}
		w.there = others
		if ok {
			w.taken[string(b)]++
		}
	case "double":
		x, want, _ := w.at(s.i)
		if got := n.Double(s.i); got != (want && w.add(x)) {
			t.Fatalf("%v, of %d, with room for %d: %v", s, n.Len(), w.room, got)
		}
	}
	if n.Lost() < was {
		t.Fatalf("%v: %d lost, then %d", s, was, n.Lost())
	}
	for x, times := range w.taken {
		if times > w.put[x] {
			t.Fatalf("%v: %q taken %d times, put %d times", s, x, times, w.put[x])
		}
	}
	check(t, n, w.lost, w.there...)
}

// TestEveryWay is P10.1 (A1) and P10.2: each row of five steps, on nets of room 1 to 4, by the words' own count.
func TestEveryWay(t *testing.T) {
	steps := []step{
		{"send", 0, []string{"a"}}, {"send", 0, []string{"", "b"}}, {"send", 0, []string{"c", "a", "d"}},
		{"take", -1, nil}, {"take", 0, nil}, {"take", 1, nil}, {"take", 2, nil}, {"double", 0, nil}, {"double", 1, nil}, {"double", 3, nil},
	}
	rows := 1
	for range 5 {
		rows *= len(steps)
	}
	for room := 1; room <= 4; room++ {
		for number := range rows {
			n, w := fresh(t, room), fromWords(room)
			for range 5 {
				act(t, n, w, steps[number%len(steps)])
				number /= len(steps)
			}
		}
	}
}

// TestLongWays is P10.1 (A1) and P10.2: long rows of any steps, on nets of any room; each frame is sent once, or some are
// the same.
func TestLongWays(t *testing.T) {
	from := rand.New(rand.NewSource(3))
	lost, full := 0, 0
	for range 400 {
		room := 1 + from.Intn(40)>>from.Intn(6)
		kinds := 1 + from.Intn(1000)>>from.Intn(10)
		n, w := fresh(t, room), fromWords(room)
		for k := range 80 {
			s := step{what: []string{"send", "take", "take", "double"}[from.Intn(4)], i: from.Intn(n.Len()+3) - 1}
			if s.what == "send" {
				s.i, s.l = 0, row(k%kinds, k%kinds+from.Intn(room+3)>>from.Intn(4))
			}
			if s.what == "double" && n.Len() == room {
				full++
			}
			act(t, n, w, s)
		}
		lost += n.Lost()
	}
	if lost < 1000 || full < 500 {
		t.Errorf("%d lost, %d doublings of full nets", lost, full)
	}
}

// TestNoneIsMadeUp is P10.2: of frames that are all others, each that is taken was sent, and is taken just as often as it
// was put there, by a send or a doubling, once all are taken; those that were lost never are.
func TestNoneIsMadeUp(t *testing.T) {
	from := rand.New(rand.NewSource(4))
	for range 300 {
		n := fresh(t, 1+from.Intn(20))
		put, sent, next := map[string]int{}, 0, 0
		for range 60 {
			l := row(next, next+from.Intn(4))
			next += len(l)
			many := n.Send(frames(l...)...)
			sent += many
			for _, s := range l[:many] {
				put[s]++
			}
			i := from.Intn(25)
			b, ok := n.At(i)
			x := string(b)
			if n.Double(i) {
				if !ok {
					t.Fatalf("doubled at %d, where there is none", i)
				}
				put[x]++
			}
			if b, ok := n.Take(from.Intn(25)); ok {
				put[string(b)]--
			}
		}
		if n.Lost() != next-sent {
			t.Fatalf("%d lost, of %d that were sent %d", n.Lost(), next, sent)
		}
		for range n.Len() {
			b, _ := n.Take(n.Len() / 3)
			put[string(b)]--
		}
		for x, left := range put {
			if left != 0 {
				t.Fatalf("%q: put there oftener by %d than it was taken", x, left)
			}
		}
	}
}

// TestTwoNets is P2: what one net is told, another one doesn't know.
func TestTwoNets(t *testing.T) {
	n, m := holding(t, 3, "a", "b"), holding(t, 2, "c")
	send(t, n, 1, "d", "e")
	check(t, m, 0, "c")
	send(t, m, 1, "f", "g", "h")
	take(t, n, 0, "a")
	check(t, m, 2, "c", "f")
	m.Double(0)
	n.Double(0)
	check(t, n, 1, "b", "d", "b")
	check(t, m, 2, "c", "f")
}

// TestWhateverIsAsked is P1 and P2: every call ends, at whatever it is given, and two nets of one way answer the same,
// however often they are asked, and whatever other nets do between.
func TestWhateverIsAsked(t *testing.T) {
	way := func(seed int64) string {
		from := rand.New(rand.NewSource(seed))
		n, err := (*net.Net)(nil), api.OK
		if from.Intn(10) > 0 {
			n, err = net.New(from.Intn(12))
		}
		s := fmt.Sprint(err)
		for range 30 {
			places := append(nowhere(n.Len()), 0, 1, 2, 3, 4, 5, 6, 7)
			i := places[from.Intn(len(places))]
			switch from.Intn(4) {
			case 0, 1:
				l := frames(row(0, from.Intn(5))...)
				l = append(l, nil, []byte{})
				s += fmt.Sprint(n.Send(l[from.Intn(len(l)):]...))
			case 2:
				s += fmt.Sprint(n.Take(i))
			case 3:
				s += fmt.Sprint(n.Double(i))
			}
			for range 2 {
				s += fmt.Sprint(n.Len(), n.Lost())
				for _, k := range places {
					s += fmt.Sprint(n.At(k))
				}
			}
		}
		return s
	}
	for seed := range int64(80) {
		first := way(seed)
		way(seed + 1)
		if again := way(seed); again != first {
			t.Fatalf("%.300s, then %.300s", first, again)
		}
	}
}
