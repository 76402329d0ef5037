package journal_test

import (
	"bytes"
	"encoding/binary"
	"fmt"
	"hash/crc32"
	"math"
	"math/rand"
	"reflect"
	"slices"
	"testing"

	"lictor/api"
	"lictor/disk"
	"lictor/entry"
	"lictor/journal"
)

const (
	lastClock  = 65535
	mostBallot = 1 << 20
	mostPreds  = 1024
	mostRoom   = 1 << 24
	lastName   = 16*256 + 8
	lastStamp  = 16*65535 + 8
	room       = 5000 // of a disk that has more than enough
)

// place and amend are commands as short as can be.
func place(id, symbol, price, qty int) api.Cmd {
	return api.Cmd{ID: id, Symbol: symbol, Price: price, Qty: qty}
}

func amend(id, symbol, target, qty int) api.Cmd {
	return api.Cmd{ID: id, Kind: api.Amend, Symbol: symbol, Target: target, Qty: qty}
}

// first are the longest commands there are of the first n names from a number on, rising.
func first(n, from int) []api.Cmd {
	var l []api.Cmd
	for id := from; len(l) < n; id++ {
		if id%16 <= 8 {
			l = append(l, place(id, 3, 1<<20, 1<<20))
		}
	}
	return l
}

// bare is the entry of a name with nothing else, full one that has something of all that one can have.
func bare(id int) entry.Entry { return entry.Entry{Cmd: place(id, 0, 5, 2)} }

func full(id int) entry.Entry {
	p := []api.Cmd{place(18, 3, 300, 2), amend(lastName, 2, 33, 1<<20)}
	return entry.Entry{
		Cmd: amend(id, 2, 17, 9), Promised: 300, Low: 33, High: 1000, F: api.Value{T: 35, P: p}, AB: 200,
		A: api.Value{T: 40, P: p[:1]}, Freed: true, Done: true, V: api.Value{T: 40, P: p[:1]},
	}
}

// promised is the entry of a name that promised a ballot.
func promised(id, ballot int) entry.Entry {
	e := bare(id)
	e.Promised = ballot
	return e
}

// kinds are entries that may be, of several names, which don't rise.
func kinds() []entry.Entry {
	voted, accepted := bare(33), bare(24)
	voted.Low, voted.High, voted.F = 56, 56, api.Value{T: 56}
	accepted.Promised, accepted.AB, accepted.A, accepted.Low, accepted.High = 1, 1, api.Value{T: 48}, 16, lastStamp
	return []entry.Entry{full(lastName), bare(17), voted, full(16), accepted, promised(1000, mostBallot), promised(18, 1)}
}

// bad are entries that may not be, for a command, a ballot, a timestamp or a value.
func bad() []entry.Entry {
	zero, other, low, without, with, many := entry.Entry{}, bare(17), bare(17), bare(17), bare(17), bare(17)
	other.Cmd.Symbol = 4
	low.Low = 16
	without.Done = true
	with.A = api.Value{T: 48}
	many.Done, many.V = true, api.Value{T: 48, P: first(mostPreds+1, 16)}
	return []entry.Entry{zero, other, low, without, with, many, bare(15), bare(25), bare(lastName + 1), promised(17, -1), promised(17, mostBallot+1)}
}

// longest is the entry of the last name that has the most bytes: three sets, with as many commands as there may be, of
// the most bytes.
func longest() entry.Entry {
	v := api.Value{T: lastStamp, P: first(mostPreds, 128)}
	return entry.Entry{
		Cmd: first(1, lastName)[0], Promised: mostBallot, Low: lastStamp, High: lastStamp, F: v, AB: mostBallot, A: v, Freed: true, Done: true, V: v,
	}
}

// record is a clock, and an entry.
type record struct {
	clock int
	e     entry.Entry
}

// records are those of a clock, and each entry.
func records(clock int, l ...entry.Entry) []record {
	var told []record
	for _, e := range l {
		told = append(told, record{clock, e})
	}
	return told
}

// numbersOf is the bytes of numbers as another package writes them.
func numbersOf(n ...int) []byte {
	var b []byte
	for _, x := range n {
		b = binary.AppendUvarint(b, uint64(x))
	}
	return b
}

func cmdBytes(c api.Cmd) []byte {
	return numbersOf(c.ID, int(c.Kind), c.Symbol, c.Target, int(c.Side), c.Price, c.Qty)
}

func valueBytes(v api.Value) []byte {
	b := numbersOf(v.T, len(v.P))
	for _, c := range v.P {
		b = append(b, cmdBytes(c)...)
	}
	return b
}

// entryBytes is the bytes of an entry whose numbers are from 0 on, whether it may be or not.
func entryBytes(e entry.Entry) []byte {
	mark := map[bool]int{true: 1}
	return slices.Concat(cmdBytes(e.Cmd), numbersOf(e.Promised, e.Low, e.High), valueBytes(e.F), numbersOf(e.AB), valueBytes(e.A), numbersOf(mark[e.Freed], mark[e.Done]), valueBytes(e.V))
}

// frameOf is bytes' frame, whose sum another package tells.
func frameOf(b []byte) []byte {
	framed := binary.LittleEndian.AppendUint16(nil, uint16(len(b)))
	return binary.LittleEndian.AppendUint32(append(framed, b...), crc32.ChecksumIEEE(b))
}

// bytesOf is a record's bytes, logOf the log of some.
func bytesOf(r record) []byte { return append(numbersOf(r.clock), entryBytes(r.e)...) }

func logOf(l ...record) []byte {
	var log []byte
	for _, r := range l {
		log = append(log, frameOf(bytesOf(r))...)
	}
	return log
}

// keptOf is what is kept of records, looked for from the last one back.
func keptOf(l []record) ([]entry.Entry, int) {
	var kept []entry.Entry
	clock := 0
	for i := len(l) - 1; i >= 0; i-- {
		clock = max(clock, l[i].clock)
		at := 0
		for at < len(kept) && kept[at].Cmd.ID < l[i].e.Cmd.ID {
			at++
		}
		if at == len(kept) || kept[at].Cmd.ID > l[i].e.Cmd.ID {
			kept = slices.Insert(kept, at, l[i].e)
		}
	}
	return kept, clock
}

// alike tells whether entries are the same, each part held against the other's; a list without elements is nil.
func alike(a, b []entry.Entry) bool { return reflect.DeepEqual(own(a), own(b)) }

// own are the same entries in memory of their own.
func own(l []entry.Entry) []entry.Entry {
	told := []entry.Entry{}
	for _, e := range l {
		for _, p := range []*[]api.Cmd{&e.F.P, &e.A.P, &e.V.P} {
			*p = append([]api.Cmd(nil), *p...)
		}
		told = append(told, e)
	}
	return told
}

// short is how something is printed, but no more than its beginning.
func short(x any) string {
	s := fmt.Sprintf("%+v", x)
	return s[:min(len(s), 400)]
}

// fresh is an empty disk with so much room.
func fresh(t *testing.T, room int) *disk.Disk {
	t.Helper()
	d, err := disk.New(room)
	if err != api.OK {
		t.Fatalf("room %d: %d", room, err)
	}
	return d
}

// write puts bytes on a disk, of which so many are synced.
func write(t *testing.T, d *disk.Disk, b []byte, synced int) {
	t.Helper()
	one := d.Append(b[:synced])
	d.Sync()
	if two := d.Append(b[synced:]); one != api.OK || two != api.OK {
		t.Fatalf("%d bytes: %d %d", len(b), one, two)
	}
}

// open is a disk's journal.
func open(t *testing.T, d *disk.Disk) *journal.Journal {
	t.Helper()
	j, err := journal.Open(d)
	if j == nil || err != api.OK {
		t.Fatalf("Open: %d", err)
	}
	return j
}

// empty is the journal of an empty disk with so much room.
func empty(t *testing.T, room int) *journal.Journal {
	t.Helper()
	return open(t, fresh(t, room))
}

// put puts records for which there is room.
func put(t *testing.T, j *journal.Journal, clock int, l ...entry.Entry) {
	t.Helper()
	if err := j.Put(clock, l...); err != api.OK {
		t.Fatalf("Put(%d, %s): %d", clock, short(l), err)
	}
}

// check tells whether a journal has just these records, of whose log so many bytes are synced.
func check(t *testing.T, j *journal.Journal, l []record, synced int) {
	t.Helper()
	log := logOf(l...)
	if d := j.Disk(); !bytes.Equal(d.Bytes(), log) || d.Synced() != synced {
		t.Fatalf("%d bytes %s, %d synced; not %d bytes %s, %d", len(d.Bytes()), short(d.Bytes()), d.Synced(), len(log), short(log), synced)
	}
	want, clock := keptOf(l)
	if got, told := j.Kept(); !alike(got, want) || told != clock {
		t.Fatalf("kept: %s at %d, not %s at %d", short(got), told, short(want), clock)
	}
}

// reopen checks what a disk's journal has once the disk crashed and kept so many bytes of those not synced, and once
// more; each on a disk of its own.
func reopen(t *testing.T, from *disk.Disk, l []record, keep int) {
	t.Helper()
	d := from.Clone()
	bytesThere := min(d.Synced()+max(keep, 0), len(d.Bytes()))
	d.Crash(keep)
	whole := 0
	for whole < len(l) && len(logOf(l[:whole+1]...)) <= bytesThere {
		whole++
	}
	log := logOf(l[:whole]...)
	for range 2 {
		j := open(t, d)
		if j.Disk() != d {
			t.Fatal("another disk")
		}
		check(t, j, l[:whole], len(log))
	}
	if d.Left()+len(log) != from.Left()+len(from.Bytes()) {
		t.Fatalf("left %d behind %d bytes", d.Left(), len(log))
	}
}

// refuse checks that a log is none of a journal, and that nothing of the disk has changed, however much was synced.
func refuse(t *testing.T, log []byte) {
	t.Helper()
	for _, synced := range []int{0, len(log) / 2, len(log)} {
		d := fresh(t, len(log)+7)
		write(t, d, log, synced)
		if j, err := journal.Open(d); j != nil || err != api.ErrForm {
			t.Fatalf("%s: %v %d", short(log), j, err)
		}
		if !bytes.Equal(d.Bytes(), log) || d.Synced() != synced || d.Left() != 7 {
			t.Fatalf("%s: now %s, %d synced, %d left", short(log), short(d.Bytes()), d.Synced(), d.Left())
		}
	}
}

// TestEmpty is P9.1 (J1): an empty disk, with room or without, keeps nothing, and its clock is 0.
func TestEmpty(t *testing.T) {
	for _, room := range []int{0, 1, 100, mostRoom} {
		j := empty(t, room)
		check(t, j, nil, 0)
		reopen(t, j.Disk(), nil, 0)
		j.Sync()
		check(t, j, nil, 0)
		if j.Disk().Left() != room {
			t.Errorf("left %d of %d", j.Disk().Left(), room)
		}
	}
	if err := empty(t, 0).Put(0, bare(17)); err != api.ErrFull {
		t.Errorf("no room: %d", err)
	}
}

// TestBytes is P9.1 (J1): what stands on the disk, written out here.
func TestBytes(t *testing.T) {
	j := empty(t, room)
	put(t, j, 300, bare(17), promised(33, 3))
	one := []byte{172, 2, 17, 0, 0, 0, 0, 5, 2, 0, 0, 0, 0, 0, 0, 0, 0, 0, 0, 0, 0}
	two := []byte{172, 2, 33, 0, 0, 0, 0, 5, 2, 3, 0, 0, 0, 0, 0, 0, 0, 0, 0, 0, 0}
	want := slices.Concat([]byte{21, 0}, one, []byte{0, 0, 0, 0, 21, 0}, two, []byte{0, 0, 0, 0})
	binary.LittleEndian.PutUint32(want[23:], crc32.ChecksumIEEE(one))
	binary.LittleEndian.PutUint32(want[50:], crc32.ChecksumIEEE(two))
	if got := j.Disk().Bytes(); !bytes.Equal(got, want) {
		t.Errorf("%v, not %v", got, want)
	}
	check(t, j, records(300, bare(17), promised(33, 3)), 0)
}

// TestPut is P9.1 (J1): one entry, several, none, of each kind; all stand behind those ahead of them, none is synced, and
// Sync makes all of them safe.
func TestPut(t *testing.T) {
	for _, e := range kinds() {
		j := empty(t, room)
		put(t, j, 7, e)
		check(t, j, records(7, e), 0)
		j.Sync()
		check(t, j, records(7, e), len(logOf(record{7, e})))
	}
	single, all := empty(t, room), empty(t, room)
	put(t, all, 3, kinds()...)
	for i, e := range kinds() {
		put(t, single, 3, e)
		check(t, single, records(3, kinds()[:i+1]...), 0)
	}
	check(t, all, records(3, kinds()...), 0)
	l := records(3, kinds()...)
	synced := 0
	for i := range 20 {
		put(t, all, 3+i, kinds()[i%7], bare(17+i%4))
		l = append(l, records(3+i, kinds()[i%7], bare(17+i%4))...)
		check(t, all, l, synced)
		if i%3 == 2 {
			all.Sync()
			synced = len(logOf(l...))
			check(t, all, l, synced)
		}
	}
	for keep := range 100 {
		reopen(t, all.Disk(), l, keep)
	}
}

// TestPutNothing is P9.1 (J1): no entry is no record, so that the clock stays that of the last one, also where there is
// no room; but a clock that may not be is ErrArg all the same.
func TestPutNothing(t *testing.T) {
	l := records(9, bare(17))
	for _, j := range []*journal.Journal{empty(t, 0), empty(t, room), empty(t, len(logOf(l...)))} {
		var has []record
		if j.Disk().Left() > 0 {
			put(t, j, 9, bare(17))
			has = l
		}
		_, clock := keptOf(has)
		for _, n := range []int{clock, 10, lastClock, clock} {
			put(t, j, n)
			put(t, j, n, []entry.Entry{}...)
			check(t, j, has, 0)
		}
		for _, n := range []int{clock - 1, -1, lastClock + 1, math.MinInt, math.MaxInt} {
			if err := j.Put(n); err != api.ErrArg {
				t.Errorf("clock %d behind %d: %d", n, clock, err)
			}
			check(t, j, has, 0)
		}
	}
}

// TestPutBad is P9.1 (J1): of one entry that may not be, first, in the middle, last or alone, ErrArg, and nothing of the
// others is there.
func TestPutBad(t *testing.T) {
	l := records(4, full(33))
	for _, wrong := range bad() {
		j := empty(t, room)
		put(t, j, 4, full(33))
		for at := range 4 {
			if err := j.Put(5, slices.Insert([]entry.Entry{bare(17), bare(33), full(18)}, at, wrong)...); err != api.ErrArg {
				t.Errorf("%s at %d: %d", short(wrong), at, err)
			}
			check(t, j, l, 0)
		}
		if err := j.Put(5, wrong); err != api.ErrArg {
			t.Errorf("%s: %d", short(wrong), err)
		}
		check(t, j, l, 0)
		// The clock is what it was.
		put(t, j, 4, bare(17))
		check(t, j, append(l, record{4, bare(17)}), 0)
		reopen(t, j.Disk(), append(l, record{4, bare(17)}), room)
	}
}

// TestClock is P9.1 (J1): a clock from 0 to 65535 that is not below the last one.
func TestClock(t *testing.T) {
	clocks := []int{math.MinInt, -65536, -1, 0, 1, 2, 127, 128, 255, 256, 16383, 16384, lastClock - 1, lastClock, lastClock + 1, 2 * lastClock, 1 << 20, 1 << 32, 1<<32 + 5, 1 << 40, 1<<40 + 1, math.MaxInt}
	for _, one := range clocks {
		for _, two := range clocks {
			j := empty(t, room)
			var l []record
			for i, n := range []int{one, two} {
				_, last := keptOf(l)
				may := n >= 0 && n <= lastClock && n >= last
				err := j.Put(n, bare(17+i))
				if may != (err == api.OK) || !may && err != api.ErrArg {
					t.Fatalf("%d behind %d: %d", n, last, err)
				}
				if may {
					l = append(l, record{n, bare(17 + i)})
				}
				check(t, j, l, 0)
			}
			reopen(t, j.Disk(), l, room)
			// Behind Open the clock is that of the last one as well.
			if _, last := keptOf(l); last > 0 {
				again := open(t, j.Disk())
				if err := again.Put(last-1, bare(33)); err != api.ErrArg {
					t.Fatalf("%d behind %d: %d", last-1, last, err)
				}
				put(t, again, last, bare(33))
			}
		}
	}
}

// TestLogClock is P9.1 (J1): the clocks of a log that is opened: equal, above, below, of the one ahead or of one farther
// ahead, above 65535, and one that has more bytes than it needs.
func TestLogClock(t *testing.T) {
	for _, x := range []struct {
		may    bool
		clocks []int
	}{
		{true, []int{0}}, {true, []int{0, 0}}, {true, []int{5, 5}}, {true, []int{5, 6}}, {true, []int{0, 5, 5, 9, 9}}, {true, []int{lastClock}},
		{true, []int{0, lastClock}}, {true, []int{lastClock, lastClock}}, {true, []int{127, 128}}, {true, []int{255, 256}}, {true, []int{16383, 16384}},
		{false, []int{1, 0}}, {false, []int{5, 4}}, {false, []int{5, 5, 4}}, {false, []int{1, 9, 8, 9}}, {false, []int{1, 9, 2, 3}}, {false, []int{9, 8, 9}}, {false, []int{128, 127}},
		{false, []int{lastClock, lastClock - 1}}, {false, []int{lastClock, 0}}, {false, []int{lastClock + 1}}, {false, []int{0, lastClock + 1}}, {false, []int{lastClock + 1, 0}},
		{false, []int{lastClock + 2}}, {false, []int{1 << 20}}, {false, []int{1 << 32}}, {false, []int{1<<32 + 1}}, {false, []int{1 << 40}}, {false, []int{1<<40 + 1}}, {false, []int{math.MaxInt}},
	} {
		var l []record
		for i, n := range x.clocks {
			l = append(l, record{n, full(17 + i)})
		}
		if !x.may {
			refuse(t, logOf(l...))
			refuse(t, append(logOf(l...), 1, 0, 97))
			continue
		}
		d := fresh(t, room)
		write(t, d, logOf(l...), 0)
		reopen(t, d, l, room)
	}
	// Torn clocks count no more: what is cut off had one.
	d := fresh(t, room)
	write(t, d, logOf(record{5, bare(17)}, record{9, bare(33)})[:50], 50)
	j := open(t, d)
	check(t, j, records(5, bare(17)), len(logOf(record{5, bare(17)})))
	put(t, j, 6, bare(18))
	check(t, j, []record{{5, bare(17)}, {6, bare(18)}}, len(logOf(record{5, bare(17)})))
}

// TestTorn is P9.1 (J1) and P9.2: a log that ends at each byte of its frames, or has there what is no frame: what is
// behind the whole ones is cut off, and what stays is synced, however much was synced ahead.
func TestTorn(t *testing.T) {
	l := []record{{3, full(33)}, {3, bare(17)}, {200, full(17)}, {40000, promised(33, 5)}}
	log := logOf(l...)
	ends := []int{0}
	for i := range l {
		ends = append(ends, len(logOf(l[:i+1]...)))
	}
	for n := range len(log) + 1 {
		whole := 0
		for whole < len(l) && ends[whole+1] <= n {
			whole++
		}
		for _, synced := range []int{0, n / 2, ends[whole], n} {
			for _, behind := range [][]byte{nil, {0}, {0, 0}, make([]byte, 7), {255}, {255, 255}, bytes.Repeat([]byte{255}, 9), {1, 0, 97, 67, 190, 183, 231}} {
				// Behind what is torn there would be another frame then, or the rest of it.
				if n != ends[whole] && len(behind) > 0 {
					continue
				}
				d := fresh(t, room)
				write(t, d, append(slices.Clone(log[:n]), behind...), synced)
				for range 2 {
					check(t, open(t, d), l[:whole], ends[whole])
				}
				j := open(t, d)
				put(t, j, lastClock, bare(18))
				check(t, j, append(slices.Clone(l[:whole]), record{lastClock, bare(18)}), ends[whole])
			}
		}
	}
}

// TestSpoilt is P9.1 (J1): of a log with one other byte in some frame, that and all behind it is cut off, though the
// frames behind are whole.
func TestSpoilt(t *testing.T) {
	l := []record{{1, bare(17)}, {2, bare(33)}, {3, bare(18)}}
	log := logOf(l...)
	one := len(log) / 3
	for i := range log {
		if i%one < 2 {
			continue
		}
		spoilt := slices.Clone(log)
		spoilt[i] ^= 1 << (i % 8)
		d := fresh(t, room)
		write(t, d, spoilt, i)
		check(t, open(t, d), l[:i/one], i/one*one)
	}
}

// TestSynced is P9.1 (J1): Open syncs a log with nothing behind it, and no call but Open and Sync does.
func TestSynced(t *testing.T) {
	l := []record{{3, full(33)}, {3, bare(17)}}
	log := logOf(l...)
	for synced := range len(log) + 1 {
		d := fresh(t, room)
		write(t, d, log, synced)
		j := open(t, d)
		check(t, j, l, len(log))
		d.Crash(0)
		check(t, j, l, len(log))
	}
	j := empty(t, len(log)+60)
	put(t, j, 3, full(33), bare(17))
	for range 2 {
		j.Kept()
		j.Disk()
		put(t, j, 3)
		j.Put(2, bare(17))
		j.Put(4, entry.Entry{})
		j.Put(4, full(33), full(18), full(19))
		j.Disk().Clone().Sync()
		check(t, j, l, 0)
	}
	j.Sync()
	check(t, j, l, len(log))
	put(t, j, 3, bare(18))
	l = append(l, record{3, bare(18)})
	j.Kept()
	check(t, j, l, len(log))
	for range 2 {
		j.Sync()
		check(t, j, l, len(logOf(l...)))
	}
}

// noRecords are bytes that are no record's, though a frame may have them.
func noRecords() map[string][]byte {
	good := bytesOf(record{7, full(17)})
	l := map[string][]byte{
		"a byte": {0}, "a clock alone": {7}, "half a clock": {128}, "noughts": make([]byte, 30), "all ones": bytes.Repeat([]byte{255}, 30),
		"no clock": entryBytes(full(17)), "two clocks": append([]byte{7}, good...), "two records": append(slices.Clone(good), good...),
		"a long clock": append([]byte{128 + 7, 0}, entryBytes(full(17))...), "a clock too great": append(numbersOf(lastClock+1), entryBytes(full(17))...),
		"a clock far too great": append(numbersOf(1<<40+1), entryBytes(full(17))...), "a clock without end": append(bytes.Repeat([]byte{128}, 9), entryBytes(full(17))...),
		"a frame": frameOf(good), "the longest": make([]byte, 65535),
	}
	for n := range good[1:] {
		l[fmt.Sprint("short, ", n+1)] = good[:n+1]
	}
	for _, more := range [][]byte{{0}, {1}, {128}, {7}, {0, 0, 0}} {
		l[fmt.Sprint("behind it ", more)] = append(slices.Clone(good), more...)
	}
	for i, e := range bad() {
		if e.Promised >= 0 {
			l[fmt.Sprint("bad ", i)] = append([]byte{7}, entryBytes(e)...)
		}
	}
	return l
}

// TestNoRecord is P9.1 (J1): a whole frame of what is no record, first, in the middle, last or alone: ErrForm, and
// nothing is cut, nor synced, also of what is torn behind it.
func TestNoRecord(t *testing.T) {
	a, b := logOf(record{7, bare(33)}), logOf(record{7, full(16)}, record{7, full(33)})
	for what, wrong := range noRecords() {
		f := frameOf(wrong)
		for i, log := range [][]byte{f, slices.Concat(f, a), slices.Concat(a, f, b), slices.Concat(a, b, f), slices.Concat(b, f, f)} {
			for _, torn := range [][]byte{nil, {0}, f[:len(f)-1], b[:20]} {
				refuse(t, slices.Concat(log, torn))
			}
			if t.Failed() {
				t.Fatal(what, i)
			}
		}
		// Where it is torn, it is no frame, and all that is told of is whole.
		d := fresh(t, len(a)+len(f))
		write(t, d, slices.Concat(a, f[:len(f)-1]), 3)
		check(t, open(t, d), records(7, bare(33)), len(a))
	}
}

// TestNames is P9.1 (J1): of each name the last record's entry is kept, by names, rising, in whatever order they came,
// in one Put or in several, also if it is of another command, or has less.
func TestNames(t *testing.T) {
	j := empty(t, room)
	put(t, j, 1, promised(33, 9), full(33), promised(33, 2))
	check(t, j, records(1, promised(33, 9), full(33), promised(33, 2)), 0)
	if kept, clock := j.Kept(); len(kept) != 1 || !alike(kept, []entry.Entry{promised(33, 2)}) || clock != 1 {
		t.Errorf("%s at %d", short(kept), clock)
	}
	put(t, j, 1, bare(17))
	put(t, j, 2, full(lastName), bare(16), full(17), promised(33, 1))
	want := []entry.Entry{bare(16), full(17), promised(33, 1), full(lastName)}
	for _, x := range []*journal.Journal{j, open(t, j.Disk().Clone())} {
		if kept, clock := x.Kept(); !alike(kept, want) || clock != 2 {
			t.Errorf("%s at %d", short(kept), clock)
		}
	}
	from := rand.New(rand.NewSource(1))
	for range 200 {
		j, l, clock := empty(t, mostRoom), []record(nil), 0
		for range from.Intn(10) {
			clock += from.Intn(3)
			var some []entry.Entry
			for range from.Intn(6) {
				some = append(some, promised(16+from.Intn(8), from.Intn(100)))
			}
			put(t, j, clock, some...)
			l = append(l, records(clock, some...)...)
			check(t, j, l, 0)
		}
		reopen(t, j.Disk(), l, mostRoom)
	}
	// All names there are, the last one first.
	var all []entry.Entry
	for id := lastName; id >= 16; id-- {
		if id%16 <= 8 {
			all = append(all, promised(id, id))
		}
	}
	j = empty(t, mostRoom)
	put(t, j, 5, all...)
	check(t, j, records(5, all...), 0)
	reopen(t, j.Disk(), records(5, all...), mostRoom)
}

// TestRoom is P9.1 (J1): room for all records to the last byte; for one byte less ErrFull, and not one of them is there,
// but what has room goes on it later.
func TestRoom(t *testing.T) {
	ahead := records(2, bare(17))
	for many := 1; many <= 7; many++ {
		l := append(slices.Clone(ahead), records(3, kinds()[:many]...)...)
		needed := len(logOf(l...))
		j := empty(t, needed)
		put(t, j, 2, bare(17))
		put(t, j, 3, kinds()[:many]...)
		check(t, j, l, 0)
		if err := j.Put(3, bare(18)); err != api.ErrFull || j.Disk().Left() != 0 {
			t.Fatalf("one more: %d", err)
		}
		put(t, j, 4)
		check(t, j, l, 0)
		for less := 1; less <= needed-len(logOf(ahead...)); less++ {
			j := empty(t, needed-less)
			put(t, j, 2, bare(17))
			for range 2 {
				if err := j.Put(3, kinds()[:many]...); err != api.ErrFull {
					t.Fatalf("%d less: %d", less, err)
				}
				check(t, j, ahead, 0)
			}
			if one := logOf(record{2, promised(33, 1)}); j.Disk().Left() >= len(one) {
				// With the clock that the refused ones didn't bring on.
				put(t, j, 2, promised(33, 1))
				check(t, j, append(slices.Clone(ahead), record{2, promised(33, 1)}), 0)
			}
		}
	}
}

// TestLongest is P9.1 (J1): the longest entry that may be has a frame; one that is longer may not be, which is ErrArg,
// not ErrFull.
func TestLongest(t *testing.T) {
	l := records(lastClock, longest(), longest())
	j := empty(t, len(logOf(l...)))
	put(t, j, lastClock, longest(), longest())
	check(t, j, l, 0)
	reopen(t, j.Disk(), l, mostRoom)
	reopen(t, j.Disk(), l, len(logOf(l...))-1)
	for _, room := range []int{0, len(logOf(l...)) - 1} {
		if err := empty(t, room).Put(lastClock, longest(), longest()); err != api.ErrFull {
			t.Errorf("room %d: %d", room, err)
		}
	}
	long := longest()
	long.F.P, long.A.P, long.V.P = first(1900, 16), first(1900, 16), first(1900, 16)
	if len(entryBytes(long)) <= 65535 {
		t.Fatalf("%d bytes", len(entryBytes(long)))
	}
	for _, room := range []int{0, mostRoom} {
		j := empty(t, room)
		if err := j.Put(0, long); err != api.ErrArg {
			t.Errorf("room %d: %d", room, err)
		}
		check(t, j, nil, 0)
	}
}

// TestWhichError is P9.1 (J1) and rule 1: where there is no room either, an entry or a clock that may not be is told.
func TestWhichError(t *testing.T) {
	ahead := records(2, bare(17))
	j := empty(t, len(logOf(ahead...)))
	put(t, j, 2, bare(17))
	for _, x := range []struct {
		clock int
		l     []entry.Entry
		want  api.Errno
	}{
		{2, []entry.Entry{bare(17)}, api.ErrFull}, {3, []entry.Entry{longest(), full(18)}, api.ErrFull}, {lastClock, []entry.Entry{bare(33)}, api.ErrFull},
		{1, []entry.Entry{bare(17)}, api.ErrArg}, {-1, []entry.Entry{bare(17)}, api.ErrArg}, {lastClock + 1, []entry.Entry{bare(17)}, api.ErrArg},
		{2, []entry.Entry{{}}, api.ErrArg}, {2, []entry.Entry{longest(), {}}, api.ErrArg}, {2, []entry.Entry{{}, longest()}, api.ErrArg}, {1, []entry.Entry{{}}, api.ErrArg},
	} {
		if err := j.Put(x.clock, x.l...); err != x.want {
			t.Errorf("Put(%d, %s): %d, not %d", x.clock, short(x.l), err, x.want)
		}
		check(t, j, ahead, 0)
	}
}

// TestDisk is P9.1 (J1): Disk is the disk itself, also behind errors.
func TestDisk(t *testing.T) {
	d := fresh(t, 100)
	j := open(t, d)
	if j.Disk() != d {
		t.Error("another disk")
	}
	put(t, j, 1, bare(17))
	j.Put(0, bare(17))
	j.Put(1, full(17), full(17), full(17))
	j.Sync()
	if j.Disk() != d || d.Synced() != len(d.Bytes()) || d.Synced() != len(logOf(record{1, bare(17)})) {
		t.Error("another disk")
	}
}

// TestMemory is rule 4: the list that is handed in is neither kept nor written into, what lies behind its length is
// neither read nor written, and what Kept tells is one's own.
func TestMemory(t *testing.T) {
	memory := kinds()
	j := empty(t, room)
	put(t, j, 4, memory[:3]...)
	if !alike(memory, kinds()) {
		t.Errorf("written into: %s", short(memory))
	}
	l := records(4, kinds()[:3]...)
	clear(memory)
	check(t, j, l, 0)
	told, _ := j.Kept()
	again, _ := j.Kept()
	clear(told)
	_ = append(told, bare(20))
	clear(told[:cap(told)])
	check(t, j, l, 0)
	want, _ := keptOf(l)
	if !alike(again, want) {
		t.Errorf("two that were told share memory: %s", short(again))
	}
	put(t, j, 5, promised(17, 77), bare(16))
	if !alike(again, want) {
		t.Errorf("what was told changed: %s", short(again))
	}
	// The journal of a disk's clone goes its own way.
	other := open(t, j.Disk().Clone())
	l = append(l, records(5, promised(17, 77), bare(16))...)
	put(t, other, 6, full(17))
	check(t, j, l, 0)
	check(t, other, append(slices.Clone(l), record{6, full(17)}), len(logOf(l...)))
}

// TestNil is P9.1 (J1) and rule 8: of a nil disk ErrArg; on a nil journal ErrArg, nothing, 0, nil.
func TestNil(t *testing.T) {
	j, err := journal.Open(nil)
	if j != nil || err != api.ErrArg {
		t.Errorf("Open: %v %d", j, err)
	}
	var none *journal.Journal
	for _, j := range []*journal.Journal{j, none} {
		for _, clock := range []int{math.MinInt, -1, 0, 1, lastClock + 1} {
			for _, l := range [][]entry.Entry{nil, {}, {bare(17)}, {{}}, kinds()} {
				if err := j.Put(clock, l...); err != api.ErrArg {
					t.Errorf("Put: %d", err)
				}
			}
		}
		j.Sync()
		if kept, clock := j.Kept(); len(kept) != 0 || clock != 0 || j.Disk() != nil {
			t.Errorf("%v %d", kept, clock)
		}
	}
}

// TestCrash is P9.2: wherever a disk crashes behind any acts, with any bytes kept, its journal keeps what the records
// that were synced keep, and whole ones that were put behind them, in order; opened once more the same.
func TestCrash(t *testing.T) {
	from := rand.New(rand.NewSource(2))
	some := kinds()
	torn, refused := 0, 0
	for range 150 {
		j, l, synced, clock := empty(t, 100+from.Intn(1500)), []record(nil), 0, 0
		for range 12 {
			d := j.Disk()
			switch from.Intn(6) {
			case 0:
				j.Sync()
				synced = len(l)
			case 1:
				keep := from.Intn(len(d.Bytes())-d.Synced()+3) - 1
				stay := len(d.Bytes()) - max(len(d.Bytes())-d.Synced()-max(keep, 0), 0)
				d.Crash(keep)
				j = open(t, d)
				for len(logOf(l...)) > stay {
					l = l[:len(l)-1]
				}
				if len(l) < synced {
					t.Fatal("what was synced is forgotten")
				}
				if len(logOf(l...)) < stay {
					torn++
				}
				synced = len(l)
				_, clock = keptOf(l)
			default:
				var more []entry.Entry
				for range from.Intn(4) {
					more = append(more, some[from.Intn(len(some))])
				}
				n := min(clock+from.Intn(3)*from.Intn(500), lastClock)
				err := j.Put(n, more...)
				if err == api.OK && len(more) > 0 {
					l, clock = append(l, records(n, more...)...), n
				}
				if err == api.ErrFull {
					refused++
				}
			}
			check(t, j, l, len(logOf(l[:synced]...)))
			loose := len(j.Disk().Bytes()) - j.Disk().Synced()
			for _, keep := range []int{math.MinInt, -1, 0, 1, 2, 3, loose / 3, loose / 2, loose - 2, loose - 1, loose, loose + 1, math.MaxInt / 2} {
				reopen(t, j.Disk(), l, keep)
			}
		}
	}
	if torn < 20 || refused < 20 {
		t.Errorf("torn %d times, refused %d times", torn, refused)
	}
}

// TestEveryByte is P9.2: each number of bytes that a crash keeps, with each record synced, or not.
func TestEveryByte(t *testing.T) {
	l := []record{{0, full(33)}, {0, bare(17)}, {128, full(17)}, {128, promised(33, 5)}, {40000, bare(16)}}
	for synced := range len(l) + 1 {
		j := empty(t, room)
		for i, r := range l {
			if i == synced {
				j.Sync()
			}
			put(t, j, r.clock, r.e)
		}
		if synced == len(l) {
			j.Sync()
		}
		for keep := -1; keep <= len(logOf(l...))+1; keep++ {
			reopen(t, j.Disk(), l, keep)
		}
	}
}

// TestWhateverIsAsked is P1 and P2: each call ends, at whatever it is given, also on a disk with any bytes, and two
// journals of one way answer the same, however often they are asked.
func TestWhateverIsAsked(t *testing.T) {
	clocks := []int{math.MinInt, -1, 0, 1, 5, 300, lastClock, lastClock + 1, math.MaxInt}
	some := append(kinds(), bad()...)
	way := func(seed int64) string {
		from := rand.New(rand.NewSource(seed))
		d := fresh(t, from.Intn(800))
		log := logOf(records(from.Intn(3), kinds()[from.Intn(7)], kinds()[from.Intn(7)])...)
		if from.Intn(2) == 0 {
			log[from.Intn(len(log))] = byte(from.Intn(256))
		}
		if from.Intn(3) == 0 {
			from.Read(log)
		}
		d.Append(log[:from.Intn(len(log)+1)])
		j, told := journal.Open(d)
		s := fmt.Sprint(j == nil, told)
		for range 10 {
			switch from.Intn(5) {
			case 0:
				j.Sync()
			case 1:
				j, told = journal.Open(d)
			default:
				var l []entry.Entry
				for range from.Intn(3) {
					l = append(l, some[min(from.Intn(len(some)), from.Intn(len(some)))])
				}
				told = j.Put(clocks[from.Intn(len(clocks))], l...)
			}
			for range 2 {
				kept, clock := j.Kept()
				s += fmt.Sprint(told, kept, clock, d.Bytes(), d.Synced(), j.Disk() == d)
			}
		}
		return s
	}
	for seed := range int64(300) {
		first := way(seed)
		way(seed + 1)
		if again := way(seed); again != first {
			t.Fatalf("%s, then %s", short(first), short(again))
		}
	}
}
