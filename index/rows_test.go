package index_test

import (
	"cmp"
	"fmt"
	"math"
	"math/rand"
	"slices"
	"testing"

	"lictor/api"
	"lictor/cmd"
	"lictor/entry"
	"lictor/index"
)

// words is an index by the document's words: entries in a row, and what changed in another one.
type words struct {
	node, clock int
	entries     []entry.Entry
	changed     []int
}

// newWords is what New is to tell.
func newWords(node, clock int, l ...entry.Entry) (*words, api.Errno) {
	if node < 0 || node > 8 || clock < 0 || clock > lastClock {
		return nil, api.ErrArg
	}
	for _, e := range l {
		if !entry.Right(e) {
			return nil, api.ErrArg
		}
	}
	w := &words{node: node, clock: clock}
	for _, e := range l {
		if w.find(e.Cmd.ID) >= 0 {
			return nil, api.ErrTwice
		}
		w.entries = append(w.entries, e)
		w.see(e.High)
		if e.Done {
			w.see(e.V.T)
		}
	}
	return w, api.OK
}

// find is the place of a name's entry; -1, if it has none.
func (w *words) find(id int) int {
	return slices.IndexFunc(w.entries, func(e entry.Entry) bool { return e.Cmd.ID == id })
}

func isStamp(s int) bool { return s >= leastStamp && s <= lastStamp && s%16 <= 8 }

func (w *words) see(s int) {
	if isStamp(s) && s/16 > w.clock {
		w.clock = s / 16
	}
}

func (w *words) tick() (int, api.Errno) {
	if w.clock == lastClock {
		return 0, api.ErrOver
	}
	w.clock++
	return at(w.clock, w.node), api.OK
}

func (w *words) learn(l []api.Cmd) api.Errno {
	for _, c := range l {
		if !cmd.Right(c) {
			return api.ErrArg
		}
	}
	for i, c := range l {
		if k := w.find(c.ID); k >= 0 && w.entries[k].Cmd != c {
			return api.ErrTwice
		}
		for _, d := range l[:i] {
			if d.ID == c.ID && d != c {
				return api.ErrTwice
			}
		}
	}
	for _, c := range l {
		if w.find(c.ID) < 0 {
			w.entries = append(w.entries, entry.Entry{Cmd: c})
			w.changed = append(w.changed, c.ID)
		}
	}
	return api.OK
}

func (w *words) put(e entry.Entry) api.Errno {
	if !entry.Right(e) {
		return api.ErrArg
	}
	k := w.find(e.Cmd.ID)
	if k >= 0 && w.entries[k].Cmd != e.Cmd {
		return api.ErrTwice
	}
	if k >= 0 {
		w.entries = slices.Delete(w.entries, k, k+1)
	}
	w.entries = append(w.entries, e)
	w.changed = append(w.changed, e.Cmd.ID)
	for _, s := range []int{e.High, e.F.T, e.A.T, e.V.T} {
		w.see(s)
	}
	return api.OK
}

// take is what changed.
func (w *words) take() []int {
	slices.Sort(w.changed)
	l := slices.Compact(w.changed)
	w.changed = nil
	return l
}

// all are the entries by names.
func (w *words) all() []entry.Entry {
	l := slices.Clone(w.entries)
	slices.SortFunc(l, func(a, b entry.Entry) int { return cmp.Compare(a.Cmd.ID, b.Cmd.ID) })
	return l
}

// touching are those by names that touch a command, and of which something is so.
func (w *words) touching(c api.Cmd, so func(entry.Entry) bool) []api.Cmd {
	var l []api.Cmd
	for _, e := range w.all() {
		if e.Cmd.Symbol == c.Symbol && e.Cmd.ID != c.ID && so(e) {
			l = append(l, e.Cmd)
		}
	}
	return l
}

// in tells whether a name stands among commands.
func in(l []api.Cmd, id int) bool {
	return slices.ContainsFunc(l, func(c api.Cmd) bool { return c.ID == id })
}

func isAhead(e entry.Entry, s int) bool {
	return e.Done && e.V.T < s || !e.Done && e.Low != 0 && e.Low < s
}

// asked is what is to be told of a command, a timestamp, and some that are there already.
func (w *words) asked(c api.Cmd, s int, p []api.Cmd) string {
	absent := func(done bool) []int {
		return idsOf(w.touching(c, func(e entry.Entry) bool { return isAhead(e, s) && e.Done == done && !in(p, e.Cmd.ID) }))
	}
	return fmt.Sprint(
		w.touching(c, func(e entry.Entry) bool { return isAhead(e, s) }),
		idsOf(w.touching(c, func(e entry.Entry) bool { return !e.Done && e.High > s })),
		idsOf(w.touching(c, func(e entry.Entry) bool { return e.Done && e.V.T > s && !in(e.V.P, c.ID) })),
		absent(true), absent(false),
	)
}

func idsOf(l []api.Cmd) []int {
	ids := []int{}
	for _, c := range l {
		ids = append(ids, c.ID)
	}
	return ids
}

// asked is what an index tells of these.
func asked(x *index.Index, c api.Cmd, s int, p []api.Cmd) string {
	return fmt.Sprint(x.Pred(c, s), x.Holders(c, s), x.Killers(c, s), x.Absent(c, s, p, true), x.Absent(c, s, p, false))
}

// agree tells whether an index tells the same as the words, of commands at timestamps, and all else but what changed.
func agree(t *testing.T, x *index.Index, w *words, l []api.Cmd, times []int) {
	t.Helper()
	if x.Node() != w.node {
		t.Fatalf("Node %d, not %d", x.Node(), w.node)
	}
	has(t, x, w.clock, w.all()...)
	for _, id := range []int{-1, 0, 16, 17, 18, 33, 34, 48, 255, 256} {
		if _, ok := x.Get(id); ok != (w.find(id) >= 0) {
			t.Fatalf("Get(%d): %t", id, ok)
		}
	}
	for i, c := range l {
		for _, s := range times {
			p := l[:i]
			if s%2 == 0 {
				p = l[i:]
			}
			if got, want := asked(x, c, s, p), w.asked(c, s, p); got != want {
				t.Fatalf("%v at %d: %s, not %s", c, s, short(got), short(want))
			}
		}
	}
	if t.Failed() {
		t.FailNow()
	}
}

// act is what is done with an index, and with the words; told is what both tell of it.
type act func(x *index.Index, w *words) (got, want string)

func see(s int) act {
	return func(x *index.Index, w *words) (string, string) {
		x.See(s)
		w.see(s)
		return "", ""
	}
}

func tick(x *index.Index, w *words) (string, string) {
	s, err := x.Tick()
	r, wrong := w.tick()
	return fmt.Sprint(s, err), fmt.Sprint(r, wrong)
}

func learns(l ...api.Cmd) act {
	return func(x *index.Index, w *words) (string, string) {
		return fmt.Sprint(x.Learn(l...)), fmt.Sprint(w.learn(l))
	}
}

func puts(e entry.Entry) act {
	return func(x *index.Index, w *words) (string, string) {
		return fmt.Sprint(x.Put(e)), fmt.Sprint(w.put(e))
	}
}

func change(x *index.Index, w *words) (string, string) {
	return fmt.Sprint(x.Changed()), fmt.Sprint(w.take())
}

// do has both do acts, and tells whether they tell the same of each, and behind it.
func do(t *testing.T, x *index.Index, w *words, l []api.Cmd, times []int, acts ...act) {
	t.Helper()
	for i, a := range acts {
		if got, want := a(x, w); got != want {
			t.Fatalf("act %d: %s, not %s", i, got, want)
		}
		agree(t, x, w, l, times)
	}
}

// TestShortRows is P13.1: all rows of three acts of some, on several beginnings.
func TestShortRows(t *testing.T) {
	a, b, c, other := place(17, 0), cancel(33, 0, 17), amend(34, 1, 17, 2), place(17, 1)
	acts := []act{
		tick, change, see(at(5, 8)), see(at(8, 9)), see(lastStamp),
		learns(a), learns(b, a, b), learns(c, other), learns(a, other), learns(place(16, 0), place(16, 5)),
		puts(reserved(bare(a), at(2, 0), at(4, 0))), puts(done(bare(a), value(at(3, 0)))), puts(done(reserved(bare(b), at(3, 3), at(9, 1)), value(at(6, 0), a))),
		puts(voted(bare(b), value(at(7, 2)))), puts(accepted(bare(c), 2, value(at(65534, 0)))), puts(freed(bare(other))), puts(reserved(bare(c), 16, 0)), puts(bare(place(17, 4))),
	}
	begins := []struct {
		node, clock int
		l           []entry.Entry
	}{
		{0, 0, nil},
		{8, lastClock - 2, list(reserved(bare(b), 16, 18))},
		{3, 1, list(done(bare(b), value(at(3, 0))), freed(bare(a)))},
		{1, 5, list(full(other), reserved(bare(c), at(2, 2), at(3, 1)))},
	}
	for _, begin := range begins {
		for i := range len(acts) * len(acts) * len(acts) {
			x := made(t, begin.node, begin.clock, begin.l...)
			w, _ := newWords(begin.node, begin.clock, begin.l...)
			for _, k := range []int{i / len(acts) / len(acts), i / len(acts) % len(acts), i % len(acts)} {
				if got, want := acts[k](x, w); got != want {
					t.Fatalf("row %d, act %d: %s, not %s", i, k, got, want)
				}
			}
			do(t, x, w, cmds(a, b, c), []int{at(3, 0), at(6, 0)}, change, change)
		}
	}
}

// someStamp is any timestamp, mostly one of a few.
func someStamp(from *rand.Rand) int {
	if from.Intn(40) == 0 {
		return at(1+from.Intn(lastClock), from.Intn(replicas))
	}
	return at(1+from.Intn(30), from.Intn(replicas))
}

// someCmd is any command of a few names, mostly the same one of each.
func someCmd(from *rand.Rand) api.Cmd {
	id := 16*(1+from.Intn(5)) + from.Intn(3)
	c := place(id, id%2)
	switch from.Intn(60) {
	case 0:
		c = cancel(id, id%2, 17)
	case 1:
		c.Symbol++
	case 2:
		l := wrongCmds()
		c = l[from.Intn(len(l))]
	}
	return c
}

func someCmds(from *rand.Rand, many int) []api.Cmd {
	var l []api.Cmd
	for range from.Intn(many) {
		l = append(l, someCmd(from))
	}
	return l
}

// someValue is any value, mostly one that may be.
func someValue(from *rand.Rand) api.Value {
	v := value(someStamp(from))
	for _, id := range []int{16, 17, 18, 32, 33, 48, 65, 80} {
		if from.Intn(3) == 0 {
			v.P = append(v.P, place(id, id%2))
		}
	}
	if from.Intn(100) == 0 {
		v.T = noStamps()[from.Intn(len(noStamps()))]
	}
	return v
}

// someEntry is any entry, mostly one that may be.
func someEntry(from *rand.Rand) entry.Entry {
	e := bare(someCmd(from))
	if from.Intn(3) > 0 {
		a, b := someStamp(from), someStamp(from)
		e = reserved(e, min(a, b), max(a, b))
	}
	if from.Intn(4) == 0 {
		e = voted(e, someValue(from))
	}
	if from.Intn(4) == 0 {
		e = accepted(e, 1+from.Intn(9), someValue(from))
	}
	if from.Intn(3) == 0 {
		e = done(e, someValue(from))
	}
	e.Freed = from.Intn(2) == 0
	if from.Intn(60) == 0 {
		l := wrong()
		e = l[from.Intn(len(l))]
	}
	return e
}

// someAct is any act.
func someAct(from *rand.Rand) act {
	switch from.Intn(12) {
	case 0:
		return see(someStamp(from))
	case 1:
		return see(noStamps()[from.Intn(len(noStamps()))])
	case 2, 3:
		return tick
	case 4:
		return change
	case 5, 6, 7:
		return learns(someCmds(from, 5)...)
	}
	return puts(someEntry(from))
}

// someBegin is an index and the words' own one, of anything with which New tells no error.
func someBegin(from *rand.Rand) (*index.Index, *words) {
	for {
		node, clock := from.Intn(replicas), from.Intn(10)
		if from.Intn(10) == 0 {
			clock = lastClock - from.Intn(20)
		}
		var l []entry.Entry
		for range from.Intn(4) {
			l = append(l, someEntry(from))
		}
		if x, err := index.New(node, clock, l...); err == api.OK {
			w, _ := newWords(node, clock, l...)
			return x, w
		}
	}
}

// TestNewOfAny is P13.1 (X1): New of any replicas, clocks and entries.
func TestNewOfAny(t *testing.T) {
	from := rand.New(rand.NewSource(1))
	seen := map[api.Errno]int{}
	for range 3000 {
		node, clock := from.Intn(replicas), from.Intn(10)
		if from.Intn(10) == 0 {
			node, clock = from.Intn(replicas+2)-1, lastClock-20+from.Intn(30)
		}
		var l []entry.Entry
		for range from.Intn(6) {
			l = append(l, someEntry(from))
		}
		x, err := index.New(node, clock, l...)
		w, want := newWords(node, clock, l...)
		if err != want || (x == nil) != (err != api.OK) {
			t.Fatalf("New(%d, %d, %s): %d, not %d", node, clock, short(l), err, want)
		}
		seen[err]++
		if err == api.OK {
			do(t, x, w, someCmds(from, 4), []int{someStamp(from), someStamp(from)}, change, tick)
		}
	}
	for _, err := range []api.Errno{api.OK, api.ErrArg, api.ErrTwice} {
		if seen[err] < 300 {
			t.Errorf("error %d: seen %d times", err, seen[err])
		}
	}
}

// TestLongRows is P13.1: long rows of any acts, with any commands and timestamps asked for behind each.
func TestLongRows(t *testing.T) {
	from := rand.New(rand.NewSource(2))
	for range 200 {
		x, w := someBegin(from)
		for range 60 {
			times := []int{someStamp(from), someStamp(from) + 1, noStamps()[from.Intn(len(noStamps()))]}
			do(t, x, w, someCmds(from, 4), times, someAct(from))
		}
		do(t, x, w, nil, nil, change, change)
	}
}

// TestAlwaysAbove is P13.2: whatever is done, what a tick tells is above all timestamps that were seen, be it by See, by
// Put, or by New, and above all that were told.
func TestAlwaysAbove(t *testing.T) {
	from := rand.New(rand.NewSource(3))
	ticked, over := 0, 0
	for range 400 {
		node := from.Intn(replicas)
		e := someEntry(from)
		x, err := index.New(node, from.Intn(20), e)
		if err != api.OK {
			continue
		}
		greatest := e.High
		if e.Done {
			greatest = max(greatest, e.V.T)
		}
		for range 60 {
			switch from.Intn(5) {
			case 0:
				s := someStamp(from)
				x.See(s)
				greatest = max(greatest, s)
			case 1:
				if e := someEntry(from); x.Put(e) == api.OK {
					greatest = max(greatest, e.High, e.F.T, e.A.T, e.V.T)
				}
			case 2:
				x.Learn(someCmds(from, 4)...)
				x.See(noStamps()[from.Intn(len(noStamps()))])
			default:
				ahead := x.Clock()
				s, err := x.Tick()
				if err == api.OK && (s <= greatest || !isStamp(s) || s%16 != node) {
					t.Fatalf("%d behind %d", s, greatest)
				}
				if err != api.OK && (err != api.ErrOver || s != 0 || ahead != lastClock) {
					t.Fatalf("%d %d behind %d", s, err, greatest)
				}
				if err == api.OK {
					greatest = s
					ticked++
				} else {
					over++
				}
			}
			if from.Intn(200) == 0 {
				s := lastStamp - 16*from.Intn(9)
				x.See(s)
				greatest = max(greatest, s)
			}
		}
	}
	if ticked < 1000 || over < 100 {
		t.Errorf("ticked %d times, over %d times", ticked, over)
	}
}

// TestWhateverIsAsked is P1 and P2: each call ends, at whatever it is given, and two indexes of one way tell the same,
// also where what they have came in another order.
func TestWhateverIsAsked(t *testing.T) {
	way := func(seed int64) string {
		from := rand.New(rand.NewSource(seed))
		x, w := someBegin(from)
		s := ""
		for range 40 {
			got, _ := someAct(from)(x, w)
			times := append(noStamps(), someStamp(from), math.MaxInt-16)
			c := someCmd(from)
			s += fmt.Sprint(got, x.Node(), x.Clock(), x.All(), asked(x, c, times[from.Intn(len(times))], someCmds(from, 5)))
			e, ok := x.Get(c.ID)
			s += fmt.Sprint(e, ok)
		}
		return s + fmt.Sprint(x.Changed(), x.Changed())
	}
	for seed := range int64(200) {
		first := way(seed)
		way(seed + 1)
		if again := way(seed); again != first {
			t.Fatalf("%s, then %s", short(first), short(again))
		}
	}
	l := list(full(place(17, 0)), reserved(bare(place(33, 0)), 16, 40), done(bare(place(48, 0)), value(at(9, 0))), bare(place(18, 1)))
	for i, some := range permuted(l) {
		x, y := made(t, 0, 0, l...), made(t, 0, 0, some[i%4:]...)
		for _, e := range some[:i%4] {
			put(t, y, api.OK, e)
		}
		x.See(at(99, 0))
		y.See(at(99, 0))
		for _, s := range times(16, 40, at(6, 6), at(9, 0)) {
			for _, c := range cmds(place(17, 0), place(33, 0), place(34, 0), place(48, 1)) {
				if a, b := asked(x, c, s, nil), asked(y, c, s, nil); a != b || fmt.Sprint(x.All()) != fmt.Sprint(y.All()) {
					t.Fatalf("%v at %d: %s, and %s", c, s, a, b)
				}
			}
		}
	}
}
