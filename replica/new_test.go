package replica_test

import (
	"bytes"
	"math"
	"slices"
	"testing"

	"lictor/api"
	"lictor/disk"
	"lictor/entry"
	"lictor/frame"
	"lictor/journal"
	"lictor/market"
	"lictor/replica"
)

// keeping is a disk whose journal keeps entries, with a clock.
func keeping(t *testing.T, clock int, l ...entry.Entry) *disk.Disk {
	t.Helper()
	d := newDisk(t, 1<<24)
	j, err := journal.Open(d)
	if err != api.OK {
		t.Fatal(err)
	}
	if err := j.Put(clock, l...); err != api.OK {
		t.Fatal(err)
	}
	j.Sync()
	return d
}

// on is a replica on a disk.
func on(t *testing.T, node, n int, d *disk.Disk) *replica.Replica {
	t.Helper()
	r, err := replica.New(node, n, d)
	if err != api.OK {
		t.Fatalf("New(%d, %d): %v", node, n, err)
	}
	return r
}

// done is an entry that is, with a value.
func done(c api.Cmd, t int, p ...api.Cmd) entry.Entry {
	return entry.Entry{Cmd: c, Done: true, V: value(t, p...)}
}

// noRecord is a disk with a frame that is no record's, not synced, and something torn behind it.
func noRecord(t *testing.T) *disk.Disk {
	t.Helper()
	d := newDisk(t, roomy)
	b, err := frame.Wrap([]byte{7})
	if err != api.OK || d.Append(append(b, 200)) != api.OK {
		t.Fatal(err)
	}
	return d
}

// isAs tells whether a disk has bytes, of which so many are synced.
func isAs(d *disk.Disk, b []byte, synced int) bool {
	return bytes.Equal(d.Bytes(), b) && d.Synced() == synced
}

// TestNewOf is R1 for all clusters that may be, and some that may not.
func TestNewOf(t *testing.T) {
	numbers := []int{math.MinInt, -17, math.MaxInt, 1 << 32, 16}
	for i := -2; i < 13; i++ {
		numbers = append(numbers, i)
	}
	for _, n := range numbers {
		for _, node := range numbers {
			d := newDisk(t, 100)
			r, err := replica.New(node, n, d)
			if 3 <= n && n <= 9 && 0 <= node && node < n {
				if err != api.OK || r == nil || r.Node() != node || r.Halted() || r.Market() == nil {
					t.Errorf("New(%d, %d): %v", node, n, err)
				}
				if len(r.Entries())+len(r.Delivered())+len(r.Answers()) > 0 || len(d.Bytes()) > 0 {
					t.Errorf("New(%d, %d): not empty", node, n)
				}
				continue
			}
			if err != api.ErrArg || r != nil {
				t.Errorf("New(%d, %d): %v", node, n, err)
			}
		}
	}
}

// TestNewErrors is which error is told, and that with one nothing is changed on the disk.
func TestNewErrors(t *testing.T) {
	for _, x := range []struct {
		node, n int
		err     api.Errno
	}{{0, 3, api.ErrForm}, {8, 9, api.ErrForm}, {-1, 3, api.ErrArg}, {3, 3, api.ErrArg}, {0, 2, api.ErrArg}, {0, 10, api.ErrArg}} {
		d := noRecord(t)
		was := d.Bytes()
		if r, err := replica.New(x.node, x.n, d); r != nil || err != x.err || !isAs(d, was, 0) {
			t.Errorf("New(%d, %d): %v, want %v", x.node, x.n, err, x.err)
		}
		if r, err := replica.New(x.node, x.n, nil); r != nil || err != api.ErrArg {
			t.Errorf("New(%d, %d), without a disk: %v", x.node, x.n, err)
		}
		// What may not be tears nothing off, either.
		torn := newDisk(t, roomy)
		torn.Append([]byte{1, 2, 3})
		if r, err := replica.New(x.node, x.n, torn); (r == nil) != (err != api.OK) || err != api.OK && !isAs(torn, []byte{1, 2, 3}, 0) {
			t.Errorf("New(%d, %d), torn: %v", x.node, x.n, err)
		}
	}
}

// TestNewTorn is the journal's: what is behind whole frames is cut off, and what stays is synced.
func TestNewTorn(t *testing.T) {
	d := keeping(t, 3, done(place(17, 0), at(1, 1)))
	whole := d.Bytes()
	for cut := range whole {
		d := newDisk(t, roomy)
		d.Append(whole)
		d.Append(whole[:cut])
		r := on(t, 1, 3, d)
		if !isAs(d, whole, len(whole)) || !slices.Equal(r.Delivered(), []int{17}) {
			t.Fatalf("torn at %d: %d bytes, %v", cut, len(d.Bytes()), r.Delivered())
		}
		d = newDisk(t, roomy)
		d.Append(whole[:cut])
		r = on(t, 1, 3, d)
		if !isAs(d, nil, 0) || len(r.Entries()) > 0 {
			t.Fatalf("torn at %d: %d bytes, %v", cut, len(d.Bytes()), textOfEntries(r.Entries()))
		}
	}
}

// TestNewKeeps is R1 on a disk that keeps entries, some of them done: it delivers what comes next.
func TestNewKeeps(t *testing.T) {
	first, second, third := sell(48, 0, 5, 3), place(17, 0), cancel(33, 0, 48)
	other, open, stuck := sell(18, 1, 1, 1), place(16, 0), place(34, 2)
	l := []entry.Entry{
		{Cmd: open, Promised: 4, Low: at(2, 0), High: at(9, 0), F: value(at(2, 0), first), Freed: true},
		done(second, at(3, 1), first),
		done(other, at(4, 2)),
		done(third, at(5, 1), second, first),
		done(stuck, at(1, 2), place(35, 2)),
		done(first, at(1, 0)),
	}
	d := keeping(t, 7, l...)
	was := d.Bytes()
	r := on(t, 2, 3, d)
	// T 64+2 of the other symbol's comes ahead of 81.
	if got := r.Delivered(); !slices.Equal(got, []int{48, 17, 18, 33}) {
		t.Errorf("delivered %v", got)
	}
	m := market.New()
	for i, c := range []api.Cmd{first, second, other, third} {
		if a := r.Answers()[i]; a.ID != c.ID || !sameReply(a.Reply, m.Apply(c)) {
			t.Errorf("%d: %v", c.ID, a)
		}
	}
	if !sameMarket(m, r.Market()) {
		t.Error("the market")
	}
	if a := r.Answers()[1].Reply; !slices.Equal(a.Fills, []api.Fill{{Order: 48, Price: 5, Qty: 2}}) || a.Left != 0 {
		t.Errorf("%v", a)
	}
	slices.SortFunc(l, func(a, b entry.Entry) int { return a.Cmd.ID - b.Cmd.ID })
	if !slices.EqualFunc(r.Entries(), l, entry.Same) {
		t.Errorf("%s", textOfEntries(r.Entries()))
	}
	if r.Clock() != 9 || !isAs(d, was, len(was)) {
		t.Errorf("clock %d, %d bytes", r.Clock(), len(d.Bytes()))
	}
	// Also the entry that is open goes on: its ballot is above what was promised.
	is(t, do(r, timer(16)), 0, api.OK, all(3, 2, prepare(2, 0, 7, open))...)
}

// TestNewClock is which clock it begins with: the journal's, or above what its entries have.
func TestNewClock(t *testing.T) {
	for _, x := range []struct {
		kept int
		e    entry.Entry
		want int
	}{
		{0, entry.Entry{Cmd: place(17, 0)}, 0},
		{5, entry.Entry{Cmd: place(17, 0)}, 5},
		{5, entry.Entry{Cmd: place(17, 0), Low: at(5, 1), High: at(6, 1)}, 6},
		{5, entry.Entry{Cmd: place(17, 0), Low: at(5, 8), High: at(5, 8)}, 5},
		{5, done(place(17, 0), at(9, 1)), 9},
		{lastClock, entry.Entry{Cmd: place(17, 0)}, lastClock},
		{0, done(place(17, 0), at(lastClock, 1)), lastClock},
	} {
		r := on(t, 0, 3, keeping(t, x.kept, x.e))
		if r.Clock() != x.want {
			t.Errorf("%d, %+v: %d, want %d", x.kept, x.e, r.Clock(), x.want)
		}
	}
}

// TestNewAgain is P2: any number of new ones on like disks are the same, and one that is opened twice, too.
func TestNewAgain(t *testing.T) {
	var l []entry.Entry
	for i := range 60 {
		var p []api.Cmd
		for _, e := range l {
			if e.Cmd.Symbol == i%4 {
				p = append(p, e.Cmd)
			}
		}
		c := place(16*(i+1)+i%3, i%4)
		if i%3 == 1 {
			c = sell(c.ID, c.Symbol, 4+i%2, 1)
		}
		l = append(l, done(c, at(i+1, i%3), p...))
	}
	d := keeping(t, 70, l...)
	r := on(t, 0, 3, d.Clone())
	if len(r.Delivered()) != 60 {
		t.Fatalf("%d are delivered", len(r.Delivered()))
	}
	for range 20 {
		other := on(t, 0, 3, d)
		if !slices.Equal(r.Delivered(), other.Delivered()) || !sameMarket(r.Market(), other.Market()) ||
			!slices.EqualFunc(r.Entries(), other.Entries(), entry.Same) {
			t.Fatal("another one")
		}
	}
}
