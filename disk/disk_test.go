package disk_test

import (
	"bytes"
	"fmt"
	"math"
	"math/rand"
	"slices"
	"testing"

	"lictor/api"
	"lictor/disk"
)

const most = 1 << 24

// row are n bytes, of which no two that stand beside one another are the same.
func row(n int) []byte {
	b := make([]byte, n)
	for i := range b {
		b[i] = byte(i*7 + n + i/256)
	}
	return b
}

// fresh is an empty disk with so much room.
func fresh(t *testing.T, room int) *disk.Disk {
	t.Helper()
	d, err := disk.New(room)
	if d == nil || err != api.OK {
		t.Fatalf("room %d: %v %d", room, d, err)
	}
	return d
}

// put appends bytes for which there is room.
func put(t *testing.T, d *disk.Disk, b []byte) {
	t.Helper()
	if err := d.Append(b); err != api.OK {
		t.Fatalf("%d bytes, room for %d: %d", len(b), d.Left(), err)
	}
}

// half is a disk with room for 20 bytes and row(10) on it, of which 6 are synced.
func half(t *testing.T) *disk.Disk {
	t.Helper()
	d := fresh(t, 20)
	put(t, d, row(10)[:6])
	d.Sync()
	put(t, d, row(10)[6:])
	check(t, d, row(10), 6, 10)
	return d
}

// check tells whether a disk has just these bytes, of which so many are synced, and room for so many more.
func check(t *testing.T, d *disk.Disk, want []byte, synced, left int) {
	t.Helper()
	if got := d.Bytes(); !bytes.Equal(got, want) || d.Synced() != synced || d.Left() != left {
		t.Fatalf("%d bytes %s, %d synced, %d left; not %d bytes %s, %d, %d", len(got), short(got), d.Synced(), d.Left(), len(want), short(want), synced, left)
	}
}

// short is how something is printed, but no more than its beginning.
func short(x any) string {
	s := fmt.Sprint(x)
	return s[:min(len(s), 300)]
}

// cell is a byte on a disk as the words have it.
type cell struct {
	is   byte
	safe bool
}

// cells are a disk told byte by byte, by the words alone.
type cells struct {
	room int
	all  []cell
}

func (c *cells) append(b []byte) api.Errno {
	if len(c.all)+len(b) > c.room {
		return api.ErrFull
	}
	for _, x := range b {
		c.all = append(c.all, cell{is: x})
	}
	return api.OK
}

func (c *cells) sync() {
	for i := range c.all {
		c.all[i].safe = true
	}
}

func (c *cells) crash(keep int) {
	var stay []cell
	for _, x := range c.all {
		if !x.safe && keep <= 0 {
			continue
		}
		if !x.safe {
			keep--
		}
		stay = append(stay, cell{x.is, true})
	}
	c.all = stay
}

func (c *cells) cut(n int) api.Errno {
	if n < 0 || n > len(c.all) {
		return api.ErrArg
	}
	for len(c.all) > n {
		c.all = c.all[:len(c.all)-1]
	}
	c.sync()
	return api.OK
}

func (c *cells) clone() *cells { return &cells{c.room, slices.Clone(c.all)} }

// told is a disk's bytes, and how many are synced: those ahead of the first one that is not.
func (c *cells) told() ([]byte, int) {
	var b []byte
	for _, x := range c.all {
		b = append(b, x.is)
	}
	n := slices.IndexFunc(c.all, func(x cell) bool { return !x.safe })
	if n < 0 {
		n = len(c.all)
	}
	return b, n
}

// step is one of a disk: with a number, or bytes, or neither.
type step struct {
	what string
	n    int
	b    []byte
}

// take takes a step on a disk and on its cells, and checks the one by the other. What the disk had is a beginning of
// what it has, or the other way round, and what was synced is there, unless it was cut.
func take(t *testing.T, d *disk.Disk, c *cells, s step) {
	t.Helper()
	was, synced := d.Bytes(), d.Synced()
	got, want := api.OK, api.OK
	switch s.what {
	case "append":
		got, want = d.Append(s.b), c.append(s.b)
	case "sync":
		d.Sync()
		c.sync()
	case "crash":
		d.Crash(s.n)
		c.crash(s.n)
	case "cut":
		got, want = d.Cut(s.n), c.cut(s.n)
	}
	if got != want {
		t.Fatalf("%v, of %d bytes, room for %d: %d, not %d", s, len(was), c.room, got, want)
	}
	b, n := c.told()
	check(t, d, b, n, c.room-len(b))
	if !bytes.HasPrefix(was, b) && !bytes.HasPrefix(b, was) || s.what != "cut" && !bytes.HasPrefix(b, was[:synced]) {
		t.Fatalf("%v: of %v, %d synced, there is %v", s, was, synced, b)
	}
}

// TestNew is P8.1 (D1): a disk has room for 0 bytes to 2^24, and is empty; else ErrArg.
func TestNew(t *testing.T) {
	if disk.MostRoom != most {
		t.Errorf("MostRoom: %d", disk.MostRoom)
	}
	for _, room := range []int{0, 1, 2, 7, 255, 256, 65535, 65536, most - 1, most} {
		check(t, fresh(t, room), nil, 0, room)
	}
	for _, room := range []int{-1, -2, -most, most + 1, most + 2, 2 * most, 1 << 32, 1<<32 + 5, 1 << 40, math.MinInt, math.MinInt + 1, math.MaxInt} {
		if d, err := disk.New(room); d != nil || err != api.ErrArg {
			t.Errorf("room %d: %v %d", room, d, err)
		}
	}
}

// TestAppend is P8.1 (D1): bytes stand behind all others and are not synced; to the last one there is room, for one more
// there is none.
func TestAppend(t *testing.T) {
	d := fresh(t, 12)
	put(t, d, []byte("abc"))
	check(t, d, []byte("abc"), 0, 9)
	put(t, d, nil)
	put(t, d, []byte{})
	check(t, d, []byte("abc"), 0, 9)
	put(t, d, []byte{0, 255, 0})
	check(t, d, []byte("abc\x00\xff\x00"), 0, 6)
	d.Sync()
	put(t, d, []byte("abc"))
	check(t, d, []byte("abc\x00\xff\x00abc"), 6, 3)
	put(t, d, []byte("xyz"))
	check(t, d, []byte("abc\x00\xff\x00abcxyz"), 6, 0)
	put(t, d, nil)
	if err := d.Append([]byte{1}); err != api.ErrFull {
		t.Errorf("one more: %d", err)
	}
	check(t, d, []byte("abc\x00\xff\x00abcxyz"), 6, 0)
	for n := range 30 {
		all := fresh(t, n)
		put(t, all, row(n))
		check(t, all, row(n), 0, 0)
		single := fresh(t, n)
		for i, x := range row(n) {
			put(t, single, []byte{x})
			check(t, single, row(n)[:i+1], 0, n-i-1)
		}
	}
}

// TestFull is P8.1 (D1): where there is no room for all, ErrFull, and nothing has changed: not one byte of them stands
// there, what was not synced isn't, and what is less than the room goes on it later.
func TestFull(t *testing.T) {
	for room := range 12 {
		for has := range room + 1 {
			for synced := range has + 1 {
				d := fresh(t, room)
				put(t, d, row(has)[:synced])
				d.Sync()
				put(t, d, row(has)[synced:])
				for _, more := range []int{1, 2, 5, 256, 65536} {
					if err := d.Append(row(room - has + more)); err != api.ErrFull {
						t.Fatalf("%d more than the room: %d", more, err)
					}
					check(t, d, row(has), synced, room-has)
				}
				rest := row(room - has)
				put(t, d, rest)
				check(t, d, slices.Concat(row(has), rest), synced, 0)
			}
		}
	}
}

// TestNoRoom is P8.1 (D1): a disk with room for nothing.
func TestNoRoom(t *testing.T) {
	d := fresh(t, 0)
	for range 2 {
		for _, b := range [][]byte{{0}, {1, 2}, row(1000)} {
			if err := d.Append(b); err != api.ErrFull {
				t.Errorf("%d bytes: %d", len(b), err)
			}
		}
		put(t, d, nil)
		d.Sync()
		check(t, d, nil, 0, 0)
		for _, n := range []int{-1, 0, 1, math.MaxInt, math.MinInt} {
			d.Crash(n)
			check(t, d, nil, 0, 0)
			if err := d.Cut(n); err == api.OK != (n == 0) {
				t.Errorf("cut at %d: %d", n, err)
			}
			check(t, d, nil, 0, 0)
		}
		d = d.Clone()
	}
}

// TestMost is P8.1 (D1): a disk with all the room there may be, filled to its last byte.
func TestMost(t *testing.T) {
	d := fresh(t, most)
	if err := d.Append(row(most + 1)); err != api.ErrFull {
		t.Errorf("one more than the room: %d", err)
	}
	check(t, d, nil, 0, most)
	all := row(most)
	put(t, d, all[:most-3])
	d.Sync()
	check(t, d, all[:most-3], most-3, 3)
	if err := d.Append(all[:4]); err != api.ErrFull {
		t.Errorf("one more than is left: %d", err)
	}
	put(t, d, all[most-3:])
	check(t, d, all, most-3, 0)
	if err := d.Append([]byte{1}); err != api.ErrFull {
		t.Errorf("one more: %d", err)
	}
	d.Crash(2)
	check(t, d, all[:most-1], most-1, 1)
	other := d.Clone()
	if err := other.Cut(5); err != api.OK {
		t.Errorf("cut: %d", err)
	}
	check(t, other, all[:5], 5, most-5)
	check(t, d, all[:most-1], most-1, 1)
}

// TestSync is P8.1 (D1): a sync of nothing, of all, of some more; twice the same.
func TestSync(t *testing.T) {
	d := fresh(t, 10)
	for range 2 {
		d.Sync()
		check(t, d, nil, 0, 10)
	}
	put(t, d, row(4))
	check(t, d, row(4), 0, 6)
	for range 2 {
		d.Sync()
		check(t, d, row(4), 4, 6)
	}
	put(t, d, row(1))
	put(t, d, row(5))
	all := slices.Concat(row(4), row(1), row(5))
	check(t, d, all, 4, 0)
	for range 2 {
		d.Sync()
		check(t, d, all, 10, 0)
	}
	d.Crash(0)
	check(t, d, all, 10, 0)
}

// TestCrash is P8.1 (D1) and P8.2: of those that are not synced the first ones stay, as many as are to be kept, none for
// a number below 0, all for one that is too great; what stays is synced, so that a second crash takes nothing away.
func TestCrash(t *testing.T) {
	for keep, stay := range map[int]int{
		math.MinInt: 6, math.MinInt + 1: 6, -1000: 6, -7: 6, -6: 6, -1: 6, 0: 6, 1: 7, 2: 8, 3: 9, 4: 10, 5: 10, 6: 10, 10: 10, 11: 10, 1000: 10, most: 10,
		1 << 32: 10, math.MaxInt - 6: 10, math.MaxInt - 5: 10, math.MaxInt - 1: 10, math.MaxInt: 10,
	} {
		d := half(t)
		d.Crash(keep)
		check(t, d, row(10)[:stay], stay, 20-stay)
		for _, n := range []int{0, keep, -1} {
			d.Crash(n)
			check(t, d, row(10)[:stay], stay, 20-stay)
		}
		put(t, d, []byte{9, 8, 7})
		check(t, d, slices.Concat(row(10)[:stay], []byte{9, 8, 7}), stay, 17-stay)
		d.Crash(1)
		check(t, d, append(row(10)[:stay], 9), stay+1, 19-stay)
	}
	for has := range 6 {
		for synced := range has + 1 {
			for keep := -2; keep <= 8; keep++ {
				d := fresh(t, 6)
				put(t, d, row(has)[:synced])
				d.Sync()
				put(t, d, row(has)[synced:])
				d.Crash(keep)
				stay := max(synced, min(has, synced+keep))
				check(t, d, row(has)[:stay], stay, 6-stay)
			}
		}
	}
}

// TestCut is P8.1 (D1): only the first bytes stay, in the middle of what was synced and of what was not, and are synced;
// ErrArg, and nothing has changed, if there are fewer, or the number is below 0.
func TestCut(t *testing.T) {
	for n := range 11 {
		d := half(t)
		if err := d.Cut(n); err != api.OK {
			t.Errorf("%d: %d", n, err)
		}
		check(t, d, row(10)[:n], n, 20-n)
		d.Crash(0)
		check(t, d, row(10)[:n], n, 20-n)
		put(t, d, row(20-n))
		check(t, d, slices.Concat(row(10)[:n], row(20-n)), n, 0)
	}
	for _, n := range []int{-1, -2, -10, 11, 12, 20, 21, most, 1 << 32, math.MinInt, math.MaxInt} {
		d := half(t)
		if err := d.Cut(n); err != api.ErrArg {
			t.Errorf("%d: %d", n, err)
		}
		check(t, d, row(10), 6, 10)
		d.Sync()
		if err := d.Cut(n); err != api.ErrArg {
			t.Errorf("%d, all synced: %d", n, err)
		}
		check(t, d, row(10), 10, 10)
	}
	d := half(t)
	for n := 10; n >= 0; n-- {
		if d.Cut(n) != api.OK || d.Cut(n) != api.OK || d.Cut(n+1) != api.ErrArg {
			t.Errorf("%d, then once more", n)
		}
		check(t, d, row(10)[:n], n, 20-n)
	}
}

// TestClone is P8.1 (D1): another disk with the same bytes, of which as many are synced, and the same room; what happens
// to the one doesn't to the other.
func TestClone(t *testing.T) {
	ways := []func(d *disk.Disk){
		func(d *disk.Disk) { put(t, d, []byte{1, 2, 3}) },
		func(d *disk.Disk) { put(t, d, row(10)) },
		func(d *disk.Disk) { d.Sync() },
		func(d *disk.Disk) { d.Crash(0); put(t, d, []byte{1, 2, 3, 4}) },
		func(d *disk.Disk) { d.Crash(2); put(t, d, []byte{5}) },
		func(d *disk.Disk) { d.Cut(0); put(t, d, []byte{1, 2, 3, 4, 5, 6, 7, 8, 9, 10, 11}) },
		func(d *disk.Disk) { d.Cut(8); put(t, d, []byte{6}); d.Sync() },
		func(d *disk.Disk) { clear(d.Bytes()) },
		func(d *disk.Disk) {},
	}
	for i, a := range ways {
		for j, b := range ways {
			d, one, two := half(t), half(t), half(t)
			other := d.Clone()
			if other == d {
				t.Fatal("the same disk")
			}
			check(t, other, row(10), 6, 10)
			a(d)
			check(t, other, row(10), 6, 10)
			a(one)
			check(t, d, one.Bytes(), one.Synced(), one.Left())
			b(other)
			b(two)
			check(t, other, two.Bytes(), two.Synced(), two.Left())
			check(t, d, one.Bytes(), one.Synced(), one.Left())
			if t.Failed() {
				t.Fatal(i, j)
			}
		}
	}
	// A clone is made of what stays, not of what was there.
	d := half(t)
	d.Crash(1)
	check(t, d.Clone(), row(10)[:7], 7, 13)
	check(t, d.Clone().Clone(), row(10)[:7], 7, 13)
	full := fresh(t, 3)
	put(t, full, row(3))
	if err := full.Clone().Append([]byte{1}); err != api.ErrFull {
		t.Errorf("a clone with more room: %d", err)
	}
	if err := full.Clone().Cut(4); err != api.ErrArg {
		t.Errorf("a clone with more bytes: %d", err)
	}
}

// TestMemory is rule 4: what is handed in is neither kept nor written into, what lies behind it is neither read nor
// written, and what Bytes tells is one's own, each time.
func TestMemory(t *testing.T) {
	memory := row(40)
	d := fresh(t, 40)
	put(t, d, memory[:10])
	put(t, d, memory[10:13])
	d.Crash(11)
	put(t, d, row(20))
	if !bytes.Equal(memory, row(40)) {
		t.Errorf("written into: %v", memory)
	}
	want := slices.Concat(row(40)[:11], row(20))
	clear(memory)
	check(t, d, want, 11, 9)

	// The first bytes of an empty disk, which a disk that keeps lists would keep as they are.
	first := row(8)
	e := fresh(t, 20)
	put(t, e, first[:5])
	put(t, e, []byte{1, 1})
	if !bytes.Equal(first, row(8)) {
		t.Errorf("written behind: %v", first)
	}
	clear(first)
	check(t, e, append(row(8)[:5], 1, 1), 0, 13)

	told, again := d.Bytes(), d.Bytes()
	clear(told)
	_ = append(told, 9, 9, 9, 9)
	clear(told[:cap(told)])
	check(t, d, want, 11, 9)
	if !bytes.Equal(again, want) {
		t.Errorf("two that were told share memory: %v", again)
	}
	other := d.Clone()
	d.Cut(0)
	put(t, d, bytes.Repeat([]byte{77}, 40))
	d.Sync()
	if !bytes.Equal(again, want) {
		t.Errorf("what was told changed: %v", again)
	}
	check(t, other, want, 11, 9)

	// Bytes that were told, appended to the same disk.
	put(t, other, other.Bytes()[:9])
	check(t, other, slices.Concat(want, want[:9]), 11, 0)
}

// TestNil is P8.1 (D1) and rule 8: on a nil disk ErrArg, nothing, 0, nil, whatever it is given.
func TestNil(t *testing.T) {
	var d *disk.Disk
	for _, b := range [][]byte{nil, {}, {1}, row(100)} {
		if err := d.Append(b); err != api.ErrArg {
			t.Errorf("Append of %d bytes: %d", len(b), err)
		}
	}
	for _, n := range []int{math.MinInt, -1, 0, 1, 5, most, math.MaxInt} {
		d.Crash(n)
		if err := d.Cut(n); err != api.ErrArg {
			t.Errorf("Cut at %d: %d", n, err)
		}
	}
	d.Sync()
	if b, synced, left, other := d.Bytes(), d.Synced(), d.Left(), d.Clone(); b != nil || synced != 0 || left != 0 || other != nil {
		t.Errorf("%v %d %d %v", b, synced, left, other)
	}
	refused, _ := disk.New(-1)
	if refused.Append(nil) != api.ErrArg || refused.Bytes() != nil {
		t.Error("a disk that there can't be")
	}
}

// TestEveryWay is P8.1 (D1) and P8.2: each row of four steps, on disks with room for 0 to 4 bytes, by the words' own
// count; each row on a clone of the disk behind the steps ahead of it, whose own way it goes.
func TestEveryWay(t *testing.T) {
	steps := []step{
		{"append", 0, nil}, {"append", 0, []byte{1}}, {"append", 0, []byte{2, 3}}, {"sync", 0, nil},
		{"crash", -1, nil}, {"crash", 0, nil}, {"crash", 1, nil}, {"crash", 2, nil}, {"crash", 9, nil},
		{"cut", -1, nil}, {"cut", 0, nil}, {"cut", 1, nil}, {"cut", 2, nil}, {"cut", 3, nil}, {"cut", 5, nil},
	}
	var walk func(d *disk.Disk, c *cells, deep int)
	walk = func(d *disk.Disk, c *cells, deep int) {
		if deep == 0 {
			return
		}
		for _, s := range steps {
			other, same := d.Clone(), c.clone()
			take(t, other, same, s)
			walk(other, same, deep-1)
		}
		b, n := c.told()
		check(t, d, b, n, c.room-len(b))
	}
	for room := range 5 {
		walk(fresh(t, room), &cells{room: room}, 4)
	}
}

// TestLongWays is P8.1 (D1) and P8.2: long rows of any steps, on disks of any room.
func TestLongWays(t *testing.T) {
	from := rand.New(rand.NewSource(3))
	full, gone := 0, 0
	for range 500 {
		room := from.Intn(1000) >> from.Intn(8)
		d, c := fresh(t, room), &cells{room: room}
		for range 60 {
			s := step{what: []string{"append", "append", "append", "sync", "crash", "cut"}[from.Intn(6)], n: from.Intn(room+20) - 5}
			if s.what == "append" {
				s.b = make([]byte, from.Intn(room+5)>>from.Intn(8))
				from.Read(s.b)
				if len(s.b) > d.Left() {
					full++
				}
			}
			if s.what == "crash" && s.n < len(d.Bytes())-d.Synced() {
				gone++
			}
			take(t, d, c, s)
			if from.Intn(8) == 0 {
				d = d.Clone()
			}
		}
	}
	if full < 1000 || gone < 500 {
		t.Errorf("full %d times, %d crashes that took bytes", full, gone)
	}
}

// TestSafe is P8.2: whatever crashes, and however often, what was synced stays, and what is there then is a beginning of
// what was there, all of which is synced.
func TestSafe(t *testing.T) {
	from := rand.New(rand.NewSource(4))
	for range 3000 {
		d := fresh(t, 200)
		var safe []byte
		for range 10 {
			if from.Intn(3) == 0 {
				d.Sync()
				safe = d.Bytes()
			}
			put(t, d, row(from.Intn(20)))
			was := d.Bytes()
			if from.Intn(2) == 0 {
				d.Crash(from.Intn(30) - 5)
				if b := d.Bytes(); !bytes.HasPrefix(b, safe) || !bytes.HasPrefix(was, b) || d.Synced() != len(b) {
					t.Fatalf("of %v, with %v safe, there is %v, %d synced", was, safe, b, d.Synced())
				}
				safe = d.Bytes()
			}
		}
	}
}

// TestWhateverIsAsked is P1 and P2: every call ends, at whatever it is given, and two disks of one way answer the same,
// however often they are asked, and whatever other disks do between.
func TestWhateverIsAsked(t *testing.T) {
	numbers := []int{math.MinInt, math.MinInt + 1, -1 << 40, -1, 0, 1, 2, 3, 5, 8, 40, 60, most, most + 1, 1 << 40, math.MaxInt - 1, math.MaxInt}
	way := func(seed int64) string {
		from := rand.New(rand.NewSource(seed))
		d, told := (*disk.Disk)(nil), api.OK
		if from.Intn(10) > 0 {
			d, told = disk.New(from.Intn(60))
		}
		s := fmt.Sprint(told)
		for range 30 {
			n := numbers[from.Intn(len(numbers))]
			switch from.Intn(6) {
			case 0, 1:
				told = d.Append(row(from.Intn(25)))
			case 2:
				d.Sync()
			case 3:
				d.Crash(n)
			case 4:
				told = d.Cut(n)
			case 5:
				d = d.Clone()
			}
			for range 2 {
				s += fmt.Sprint(told, d.Bytes(), d.Synced(), d.Left())
			}
		}
		return s
	}
	for seed := range int64(500) {
		first := way(seed)
		way(seed + 1)
		if again := way(seed); again != first {
			t.Fatalf("%s, then %s", short(first), short(again))
		}
	}
}
