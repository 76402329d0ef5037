package frame_test

import (
	"bytes"
	"encoding/binary"
	"fmt"
	"hash/crc32"
	"math/rand"
	"slices"
	"testing"

	"lictor/api"
	"lictor/frame"
)

const most = 65535

// row are n bytes, of which no two that stand beside one another are the same.
func row(n int) []byte {
	b := make([]byte, n)
	for i := range b {
		b[i] = byte(i*7 + n + i/256)
	}
	return b
}

// frameOf is bytes' frame as other packages write it, however many they are, but no more than two bytes can tell.
func frameOf(b []byte) []byte {
	f := binary.LittleEndian.AppendUint16(nil, uint16(len(b)))
	return binary.LittleEndian.AppendUint32(append(f, b...), crc32.ChecksumIEEE(b))
}

// logOf is a log of frames, one behind the other.
func logOf(l ...[]byte) []byte {
	var log []byte
	for _, b := range l {
		log = append(log, frameOf(b)...)
	}
	return log
}

// some are what is in the frames of most logs here: of 1 byte, of several, of so many that both bytes of the length are
// needed.
func some() [][]byte {
	return [][]byte{{7}, row(2), {0}, row(40), {0, 0, 0, 0, 0, 0}, {255}, row(255), row(256), row(300)}
}

// scanned is what is in a log's frames, and how many of its bytes these are, as other packages read it.
func scanned(log []byte) ([][]byte, int) {
	var l [][]byte
	for r := bytes.NewReader(log); ; {
		at := len(log) - r.Len()
		var n uint16
		if binary.Read(r, binary.LittleEndian, &n) != nil || n == 0 || r.Len() < int(n)+4 {
			return l, at
		}
		b := make([]byte, n)
		var sum uint32
		if binary.Read(r, binary.LittleEndian, b) != nil || binary.Read(r, binary.LittleEndian, &sum) != nil || sum != crc32.ChecksumIEEE(b) {
			return l, at
		}
		l = append(l, b)
	}
}

// check tells whether just that is told of a log.
func check(t *testing.T, log []byte, want [][]byte, n int) {
	t.Helper()
	got, many := frame.Scan(log)
	if !slices.EqualFunc(got, want, bytes.Equal) || many != n {
		t.Fatalf("%d bytes from %v on: %s, %d of them; not %s, %d", len(log), log[:min(len(log), 20)], short(got), many, short(want), n)
	}
}

// short is how something is printed, but no more than its beginning.
func short(x any) string {
	s := fmt.Sprint(x)
	return s[:min(len(s), 300)]
}

// divided is bytes' sum by the words alone: the factors of the polynomial one by one, the highest power first, and a
// long division.
func divided(b []byte) uint32 {
	var factors []int
	for _, x := range b {
		for i := range 8 {
			factors = append(factors, int(x>>i&1))
		}
	}
	factors = append(factors, make([]int, 32)...)
	for i := range 32 {
		factors[i] ^= 1
	}
	for ; len(factors) > 32; factors = factors[1:] {
		if factors[0] == 0 {
			continue
		}
		for _, power := range []int{32, 26, 23, 22, 16, 12, 11, 10, 8, 7, 5, 4, 2, 1, 0} {
			factors[32-power] ^= 1
		}
	}
	sum := uint32(0)
	for i, x := range factors {
		sum |= uint32(x) << i
	}
	return ^sum
}

// TestSum is P7.1 (M1): the sum of no bytes, of each one, of many, as the words say it, and as another package tells it.
func TestSum(t *testing.T) {
	for _, x := range []struct {
		of   string
		want uint32
	}{
		{"", 0}, {"\x00", 0xd202ef8d}, {"\xff", 0xff000000}, {"a", 0xe8b7be43}, {"abc", 0x352441c2}, {"\x00\x00\x00\x00", 0x2144df1c}, {"123456789", 0xcbf43926},
	} {
		if got := frame.Sum([]byte(x.of)); got != x.want {
			t.Errorf("%q: %x, not %x", x.of, got, x.want)
		}
	}
	if got := frame.Sum(nil); got != 0 {
		t.Errorf("nil: %x", got)
	}
	all := [][]byte{row(1000), row(most), row(most + 1), row(1 << 20), make([]byte, 5000), bytes.Repeat([]byte{255}, 5000)}
	for x := range 256 {
		all = append(all, []byte{byte(x)}, []byte{byte(x), 0}, []byte{0, byte(x)}, []byte{byte(x), 1, 2, 3, 255}, row(x))
	}
	for _, b := range all {
		if got, want := frame.Sum(b), crc32.ChecksumIEEE(b); got != want {
			t.Fatalf("%d bytes from %v on: %x, not %x", len(b), b[:min(len(b), 20)], got, want)
		}
		if got := frame.Sum(b); len(b) <= 5000 && got != divided(b) {
			t.Fatalf("%d bytes from %v on: %x, not %x", len(b), b[:min(len(b), 20)], got, divided(b))
		}
	}
}

// TestBytes is P7.1 (M1): frames that are written out here, the length's bytes and the sum's with the lowest first.
func TestBytes(t *testing.T) {
	for _, x := range []struct{ of, want []byte }{
		{[]byte("a"), []byte{1, 0, 'a', 0x43, 0xbe, 0xb7, 0xe8}},
		{[]byte{0}, []byte{1, 0, 0, 0x8d, 0xef, 0x02, 0xd2}},
		{[]byte{255}, []byte{1, 0, 255, 0, 0, 0, 255}},
		{[]byte("123456789"), []byte{9, 0, '1', '2', '3', '4', '5', '6', '7', '8', '9', 0x26, 0x39, 0xf4, 0xcb}},
	} {
		if got, err := frame.Wrap(x.of); !bytes.Equal(got, x.want) || err != api.OK {
			t.Errorf("%v: %v %d", x.of, got, err)
		}
		check(t, x.want, [][]byte{x.of}, len(x.want))
	}
	for n, head := range map[int][]byte{1: {1, 0}, 255: {255, 0}, 256: {0, 1}, 300: {44, 1}, 513: {1, 2}, most - 1: {254, 255}, most: {255, 255}} {
		if got, _ := frame.Wrap(row(n)); !bytes.HasPrefix(got, head) {
			t.Errorf("%d bytes: %v", n, got[:min(len(got), 2)])
		}
	}
}

// TestWrap is P7.1 (M1): from 1 byte on to 65535; none, and more, are ErrArg.
func TestWrap(t *testing.T) {
	if frame.MostFrame != most {
		t.Errorf("MostFrame: %d", frame.MostFrame)
	}
	for _, n := range []int{1, 2, 3, 4, 5, 6, 7, 8, 127, 128, 255, 256, 257, 300, 511, 512, 32767, 32768, most - 1, most} {
		for _, b := range [][]byte{row(n), make([]byte, n), bytes.Repeat([]byte{255}, n)} {
			got, err := frame.Wrap(b)
			if !bytes.Equal(got, frameOf(b)) || err != api.OK {
				t.Errorf("%d bytes: %s %d", n, short(got), err)
			}
			check(t, got, [][]byte{b}, n+6)
		}
	}
	for _, b := range [][]byte{nil, {}, row(5)[:0], row(most + 1), row(most + 2), row(most + 257), row(1 << 17), row(1<<17 + 5), make([]byte, 1<<20)} {
		if got, err := frame.Wrap(b); len(got) != 0 || err != api.ErrArg {
			t.Errorf("%d bytes: %s %d", len(b), short(got), err)
		}
	}
}

// TestScan is P7.1 (M1): a log of no bytes, of one frame, of several, in any order, the same ones too; of great ones, and
// of many.
func TestScan(t *testing.T) {
	check(t, nil, nil, 0)
	check(t, []byte{}, nil, 0)
	all := some()
	for i, a := range all {
		check(t, logOf(a), [][]byte{a}, len(a)+6)
		check(t, logOf(a, a, a), [][]byte{a, a, a}, 3*(len(a)+6))
		for _, b := range all {
			check(t, logOf(a, b), [][]byte{a, b}, len(a)+len(b)+12)
			check(t, logOf(b, a, b), [][]byte{b, a, b}, len(a)+2*len(b)+18)
		}
		check(t, logOf(all[i:]...), all[i:], len(logOf(all[i:]...)))
	}
	great := [][]byte{row(most), {1}, row(most), row(most - 1), make([]byte, most)}
	check(t, logOf(great...), great, 4*most+30)
	var many [][]byte
	for i := range 20000 {
		many = append(many, row(i%9+1))
	}
	check(t, logOf(many...), many, len(logOf(many...)))
}

// TestTorn is P7.2: of a log from whose end any number of bytes is gone those frames are told that are whole, also if the
// end is in the middle of a length or of a sum.
func TestTorn(t *testing.T) {
	all := some()
	log := logOf(all...)
	whole, at := 0, 0
	for n := range len(log) + 1 {
		if whole < len(all) && at+len(all[whole])+6 <= n {
			at += len(all[whole]) + 6
			whole++
		}
		check(t, log[:n], all[:whole], at)
		check(t, slices.Clone(log[:n]), all[:whole], at)
	}
	if whole != len(all) || at != len(log) {
		t.Errorf("%d frames, %d bytes", whole, at)
	}
	great := logOf([]byte{5}, row(most))
	for _, n := range []int{7, 8, 9, 10, 1000, 65543, 65544, 65545, 65546, 65547} {
		check(t, great[:n], [][]byte{{5}}, 7)
	}
	check(t, great, [][]byte{{5}, row(most)}, most+13)
}

// TestNone is P7.1 (M1): bytes of which none comes whole, from the beginning on, or behind frames: too few, a length of 0
// with the right sum of no bytes, or with another one, a wrong sum. What stands behind is not told, be it frames.
func TestNone(t *testing.T) {
	wrong := frameOf([]byte("abc"))
	wrong[len(wrong)-1]++
	turned := frameOf([]byte("abc"))
	slices.Reverse(turned[5:])
	highFirst := slices.Concat([]byte{0, 3}, []byte("abc"), turned[5:])
	for _, none := range [][]byte{
		{0}, {1}, {255}, {0, 0}, {1, 0}, {0, 1}, {1, 0, 0}, make([]byte, 5), make([]byte, 6), make([]byte, 7), make([]byte, 100), {0, 0, 255, 255, 255, 255},
		{0, 0, 1, 2, 3, 4, 5, 6, 7, 8}, bytes.Repeat([]byte{255}, 1000), bytes.Repeat([]byte{255}, 70000), {1, 0, 'a', 0x43, 0xbe, 0xb7}, {1, 0, 'a', 0xe8, 0xb7, 0xbe, 0x43},
		{1, 0, 'a', 0, 0, 0, 0}, {1, 0, 'a', 255, 255, 255, 255}, {2, 0, 'a', 0x43, 0xbe, 0xb7, 0xe8}, wrong, turned, highFirst, []byte("no log at all"),
	} {
		check(t, none, nil, 0)
		check(t, append(logOf(some()...), none...), some(), len(logOf(some()...)))
		// Only those that no bytes behind them could make whole.
		if len(none) > 5 && (none[0] == 0 && none[1] == 0 || len(none) == int(none[0])+6) {
			check(t, slices.Concat(none, logOf(some()...)), nil, 0)
			check(t, slices.Concat(frameOf([]byte{9}), none, logOf(some()...)), [][]byte{{9}}, 7)
		}
	}
}

// TestOneByte is P7.3: a frame of which any one byte behind the first two is any other one is not told, nor is what
// stands behind it, but what stands ahead.
func TestOneByte(t *testing.T) {
	ahead, behind := [][]byte{{7}, row(20)}, logOf([]byte{8}, row(30))
	n := len(logOf(ahead...))
	for _, b := range [][]byte{{0}, {200}, row(2), make([]byte, 6), row(40)} {
		for at := 2; at < len(b)+6; at++ {
			for x := 1; x < 256; x++ {
				other := frameOf(b)
				other[at] ^= byte(x)
				check(t, other, nil, 0)
				check(t, slices.Concat(logOf(ahead...), other, behind), ahead, n)
			}
		}
	}
	for _, b := range [][]byte{row(300), row(1000)} {
		for at := 2; at < len(b)+6; at++ {
			other := frameOf(b)
			other[at] ^= byte(1 + at%255)
			check(t, slices.Concat(logOf(ahead...), other, behind), ahead, n)
		}
	}
	great := row(most)
	for _, at := range []int{2, 3, 40000, most, most + 1, most + 2, most + 3, most + 5} {
		other := frameOf(great)
		other[at] ^= 1
		check(t, slices.Concat(logOf(ahead...), other, behind), ahead, n)
	}
}

// TestLength is P7.1 (M1): of a frame whose length is another one there is told what the bytes are then; that may be a
// frame again, where its sum happens to be right.
func TestLength(t *testing.T) {
	behind := logOf(row(300), []byte{8})
	for _, b := range [][]byte{{0}, row(6), row(40), row(256)} {
		for n := range 70 * 256 {
			log := append(frameOf(b), behind...)
			binary.LittleEndian.PutUint16(log, uint16(n))
			want, many := scanned(log)
			check(t, log, want, many)
		}
	}
	// A frame in a frame: with the one length the outer one is told, with the other one that within.
	inner := frameOf([]byte{1, 2, 3})
	outer := frameOf(slices.Concat(inner[2:], inner, []byte{4}))
	check(t, outer, [][]byte{slices.Concat(inner[2:], inner, []byte{4})}, len(outer))
	outer[0] = 3
	check(t, outer, [][]byte{{1, 2, 3}, {1, 2, 3}}, 18)
}

// TestMemory is rule 4: what is handed in is neither written into nor kept, what lies behind it is neither read nor
// written, and what is told is one's own, each list of it.
func TestMemory(t *testing.T) {
	memory := row(20)
	kept := slices.Clone(memory)
	f, err := frame.Wrap(memory[:10])
	if frame.Sum(memory[:10]) != crc32.ChecksumIEEE(kept[:10]) || err != api.OK || !bytes.Equal(memory, kept) {
		t.Errorf("written into: %v %d", memory, err)
	}
	clear(memory)
	if !bytes.Equal(f, frameOf(kept[:10])) {
		t.Errorf("kept: %v", f)
	}
	clear(f)
	if g, _ := frame.Wrap(kept[:10]); !bytes.Equal(g, frameOf(kept[:10])) || !bytes.Equal(kept, row(20)) {
		t.Errorf("shared: %v", g)
	}

	log := logOf(some()...)
	kept = slices.Clone(log)
	// The last frame's last byte lies behind the log's end.
	got, n := frame.Scan(log[:len(log)-1])
	want := some()[:len(some())-1]
	if !bytes.Equal(log, kept) || !slices.EqualFunc(got, want, bytes.Equal) || n != len(logOf(want...)) {
		t.Fatalf("%d frames, %d bytes", len(got), n)
	}
	clear(log)
	if !slices.EqualFunc(got, want, bytes.Equal) {
		t.Errorf("kept: %s", short(got))
	}
	copy(log, kept)
	for i, b := range got {
		clear(b)
		_ = append(b, 9, 9, 9, 9, 9, 9, 9, 9)
		clear(b[:cap(b)])
		if !slices.EqualFunc(got[i+1:], want[i+1:], bytes.Equal) || !bytes.Equal(log, kept) {
			t.Fatalf("frame %d shares memory", i)
		}
	}
	check(t, log, some(), len(log))
}

// TestThereAndBack is P7.1 and P7.2: what was wrapped is told, of logs of any frames, and of those torn anywhere.
func TestThereAndBack(t *testing.T) {
	from := rand.New(rand.NewSource(7))
	for range 2000 {
		var all [][]byte
		var log []byte
		ends := []int{0}
		for range from.Intn(12) {
			b := make([]byte, 1+from.Intn(600)>>from.Intn(10))
			from.Read(b)
			f, err := frame.Wrap(b)
			if err != api.OK || len(f) != len(b)+6 {
				t.Fatalf("%v: %v %d", b, f, err)
			}
			all, log = append(all, b), append(log, f...)
			ends = append(ends, len(log))
		}
		check(t, log, all, len(log))
		n := from.Intn(len(log) + 1)
		whole, exact := slices.BinarySearch(ends, n)
		if !exact {
			whole--
		}
		check(t, log[:n], all[:whole], ends[whole])
	}
}

// TestAnyBytes is P7.1 (M1): of logs with some bytes changed, put in, or gone, there is told what another reader takes.
func TestAnyBytes(t *testing.T) {
	from := rand.New(rand.NewSource(8))
	told := map[int]int{}
	for range 20000 {
		var log []byte
		for range from.Intn(5) {
			log = append(log, frameOf(row(1+from.Intn(20)))...)
		}
		for range from.Intn(3) {
			at := from.Intn(len(log) + 1)
			log = slices.Concat(log[:at], row(from.Intn(3)), log[min(len(log), at+from.Intn(3)):])
		}
		want, n := scanned(log)
		check(t, log, want, n)
		told[len(want)]++
	}
	for n := range 5 {
		if told[n] < 1000 {
			t.Errorf("%d frames only %d times", n, told[n])
		}
	}
}

// TestWhateverIsAsked is P1 and P2: every call ends, at whatever it is given, and answers the same when it is asked
// again.
func TestWhateverIsAsked(t *testing.T) {
	from := rand.New(rand.NewSource(9))
	ask := func(b []byte) string {
		f, err := frame.Wrap(b)
		l, n := frame.Scan(b)
		if n < 0 || n > len(b) {
			t.Fatalf("%v: %d of its bytes", b, n)
		}
		return fmt.Sprint(frame.Sum(b), f, err, l, n)
	}
	for range 20000 {
		b := make([]byte, from.Intn(60))
		for i := range b {
			b[i] = byte(from.Intn(256)) >> from.Intn(9)
		}
		told := ask(b)
		ask(logOf(row(5), append(b, 1)))
		if again := ask(b); again != told {
			t.Fatalf("%v: %s, then %s", b, told, again)
		}
	}
	for _, b := range [][]byte{nil, {}, make([]byte, 1<<17), bytes.Repeat([]byte{255}, 1<<17), bytes.Repeat([]byte{1, 0}, 1<<16), row(1 << 17)} {
		if ask(b) != ask(b) {
			t.Errorf("%d bytes: not the same again", len(b))
		}
	}
}
