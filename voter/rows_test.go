package voter_test

import (
	"cmp"
	"fmt"
	"maps"
	"math/rand"
	"slices"
	"testing"

	"lictor/api"
	"lictor/entry"
	"lictor/index"
	"lictor/voter"
	"lictor/wire"
)

// words is a voter by the document's words, with what it knows as plain entries, and how often it did each of what a voter
// can do.
type words struct {
	node, clock int
	entries     map[int]entry.Entry
	waiting     []api.Msg
	over        bool
	changed     map[int]bool
	did         map[string]int
}

func newWords(node, clock int, l ...entry.Entry) *words {
	w := &words{node: node, clock: clock, entries: map[int]entry.Entry{}, changed: map[int]bool{}, did: map[string]int{}}
	for _, e := range l {
		w.entries[e.Cmd.ID] = e
		w.see(e.High)
		w.see(e.V.T)
	}
	return w
}

func (w *words) see(s int) { w.clock = max(w.clock, s/16) }

func (w *words) put(e entry.Entry) {
	w.entries[e.Cmd.ID] = e
	w.changed[e.Cmd.ID] = true
	for _, s := range []int{e.High, e.F.T, e.A.T, e.V.T} {
		w.see(s)
	}
}

// all are the entries by names.
func (w *words) all() []entry.Entry {
	return slices.SortedFunc(maps.Values(w.entries), func(a, b entry.Entry) int { return cmp.Compare(a.Cmd.ID, b.Cmd.ID) })
}

// touching are the commands of those that touch one, and of which something is so.
func (w *words) touching(c api.Cmd, so func(entry.Entry) bool) []api.Cmd {
	var l []api.Cmd
	for _, e := range w.all() {
		if e.Cmd.Symbol == c.Symbol && e.Cmd.ID != c.ID && so(e) {
			l = append(l, e.Cmd)
		}
	}
	return l
}

func isAhead(e entry.Entry, s int) bool {
	return e.Done && e.V.T < s || !e.Done && e.Low != 0 && e.Low < s
}

func in(l []api.Cmd, id int) bool {
	return slices.ContainsFunc(l, func(c api.Cmd) bool { return c.ID == id })
}

func sameValue(a, b api.Value) bool { return a.T == b.T && slices.Equal(a.P, b.P) }

func (w *words) ahead(c api.Cmd, s int) []api.Cmd {
	return w.touching(c, func(e entry.Entry) bool { return isAhead(e, s) })
}

// some tells whether there is one that touches a message's command, and of which something is so.
func (w *words) some(m api.Msg, so func(entry.Entry) bool) bool {
	return len(w.touching(m.Cmd, so)) > 0
}

func (w *words) tick() (int, bool) {
	if w.clock == lastClock {
		w.over = true
		w.did["over"]++
		return 0, false
	}
	w.clock++
	return at(w.clock, w.node), true
}

// learn tells whether all could be learned, as they then are.
func (w *words) learn(l []api.Cmd) bool {
	for i, c := range l {
		if e, has := w.entries[c.ID]; has && e.Cmd != c {
			return false
		}
		for _, d := range l[:i] {
			if d.ID == c.ID && d != c {
				return false
			}
		}
	}
	for _, c := range l {
		if _, has := w.entries[c.ID]; !has {
			w.entries[c.ID] = entry.Entry{Cmd: c}
			w.changed[c.ID] = true
		}
	}
	return true
}

// handle is what Handle is to tell.
func (w *words) handle(m api.Msg) []api.Msg {
	taken := m.Sort == api.Propose || m.Sort == api.Prepare || m.Sort == api.Accept || m.Sort == api.Stable
	if w.over || !taken || !wire.Right(m) {
		w.did["not taken"]++
		return nil
	}
	if !w.learn(append([]api.Cmd{m.Cmd}, m.V.P...)) {
		w.did["not learned"]++
		return nil
	}
	w.see(m.V.T)
	if m.Sort != api.Stable {
		return w.answer(m, "came")
	}
	e := w.entries[m.Cmd.ID]
	if e.Done && !sameValue(e.V, m.V) {
		w.did["done with another one"]++
		return nil
	}
	e.Done, e.V = true, m.V
	w.put(e)
	var told []api.Msg
	row := w.waiting
	w.waiting = nil
	for i, m := range row {
		if w.over {
			w.did["left"]++
			w.waiting = append(w.waiting, row[i:]...)
			break
		}
		told = append(told, w.answer(m, "waited")...)
	}
	if w.over {
		if len(told) > 0 {
			w.did["told no more"]++
		}
		return nil
	}
	return told
}

// answer is what one is told that came, or waited.
func (w *words) answer(m api.Msg, how string) []api.Msg {
	head := api.Msg{From: w.node, To: m.From, Bal: m.Bal, Cmd: m.Cmd}
	l := w.take(m, head, how == "came")
	for _, a := range l {
		w.did[fmt.Sprint(wire.Name(m.Sort), " ", how, ": ", wire.Name(a.Sort), " ", a.Flag)]++
	}
	return l
}

// take is 2 to 6.
func (w *words) take(m, a api.Msg, came bool) []api.Msg {
	e := w.entries[m.Cmd.ID]
	switch {
	case e.Done:
		a.Sort, a.Bal, a.V = api.Stable, 0, e.V
		return msgs(a)
	case m.Bal < e.Promised:
		a.Sort, a.AB = api.Reject, e.Promised
		return msgs(a)
	case m.Sort == api.Accept && m.Bal == 0:
		w.did["accept at nought"]++
		return nil
	case m.Sort == api.Accept:
		e.Promised, e.AB, e.A = m.Bal, m.Bal, m.V
		w.put(reserve(e, m.V.T))
		a.Sort = api.Accepted
		return msgs(a)
	}
	if came {
		e.Promised = m.Bal
		e.Freed = e.Freed || m.Sort == api.Propose && m.Bal > 0 && !m.Flag
		w.put(e)
	}
	if m.Sort == api.Propose {
		return w.decide(m, a, e)
	}
	s, ok := w.tick()
	if !ok {
		return nil
	}
	a.Sort, a.F, a.AB, a.A, a.Flag, a.S, a.V.P = api.Promise, e.F, e.AB, e.A, e.Freed, s, w.ahead(m.Cmd, s)
	return msgs(a)
}

func reserve(e entry.Entry, s int) entry.Entry {
	if e.Low == 0 {
		e.Low, e.High = s, s
	}
	e.Low, e.High = min(e.Low, s), max(e.High, s)
	return e
}

// decide is 6a to d.
func (w *words) decide(m, a api.Msg, e entry.Entry) []api.Msg {
	v := m.V
	a.V.T = v.T
	if sameValue(e.F, v) && (m.Bal == 0 || m.Flag) {
		a.Sort, a.Flag = api.Okay, true
		return msgs(a)
	}
	kills := func(e entry.Entry) bool { return e.Done && e.V.T > v.T && !in(e.V.P, m.Cmd.ID) }
	holds := func(e entry.Entry) bool { return !e.Done && e.High > v.T }
	misses := func(done bool) bool {
		return m.Flag && w.some(m, func(e entry.Entry) bool { return e.Done == done && isAhead(e, v.T) && !in(v.P, e.Cmd.ID) })
	}
	if w.some(m, kills) || misses(true) {
		s, ok := w.tick()
		if !ok {
			return nil
		}
		a.Sort, a.S, a.V.P = api.Refuse, s, w.ahead(m.Cmd, s)
		return msgs(a)
	}
	if w.some(m, holds) || misses(false) {
		w.did["waits"]++
		if i := slices.IndexFunc(w.waiting, func(o api.Msg) bool { return o.From == m.From && o.Cmd.ID == m.Cmd.ID }); i >= 0 {
			w.did["waits instead"]++
			w.waiting = slices.Concat(w.waiting[:i], w.waiting[i+1:])
		}
		w.waiting = append(w.waiting, m)
		return nil
	}
	for _, c := range w.ahead(m.Cmd, v.T) {
		if !in(v.P, c.ID) {
			a.V.P = append(a.V.P, c)
		}
	}
	a.Sort = api.Okay
	if m.Bal == 0 && len(a.V.P) == 0 && e.F.T == 0 {
		e.F, a.Flag = v, true
	}
	w.put(reserve(e, v.T))
	return msgs(a)
}

// begin is a voter, and the words' own one.
func begin(t *testing.T, node, clock int, l ...entry.Entry) (*voter.Voter, *words) {
	t.Helper()
	x, err := index.New(node, clock, l...)
	if err != api.OK {
		t.Fatalf("index.New: %d", err)
	}
	v, err := voter.New(x)
	if err != api.OK {
		t.Fatalf("New: %d", err)
	}
	return v, newWords(node, clock, l...)
}

// do has both take a message, and tells whether they tell the same, and know the same behind it.
func do(t *testing.T, v *voter.Voter, w *words, m api.Msg) {
	t.Helper()
	got, want := v.Handle(m), w.handle(m)
	if !same(got, want) {
		t.Fatalf("%s: told %s, not %s", short(m), short(got), short(want))
	}
	for _, a := range got {
		if !wire.Right(a) {
			t.Fatalf("%s: told %s, which may not be", short(m), short(a))
		}
	}
	agree(t, v, w)
}

// agree tells whether both know the same.
func agree(t *testing.T, v *voter.Voter, w *words) {
	t.Helper()
	has(t, v, w.clock, slices.Sorted(maps.Keys(w.changed)), w.all()...)
	clear(w.changed)
	if v.Over() != w.over {
		t.Errorf("over: %t", v.Over())
	}
	if got := v.Waiting(); !w.over && !same(got, w.waiting) {
		t.Errorf("wait %s, not %s", short(got), short(w.waiting))
	}
	if t.Failed() {
		t.FailNow()
	}
}

// TestShortRows is P14.1: all rows of three messages of some, on several beginnings.
func TestShortRows(t *testing.T) {
	a, b, far := place(17, 0), cancel(33, 0, 17), place(49, 1)
	va, vb, later := value(at(5, 1)), value(at(8, 2), a), value(at(9, 3))
	l := msgs(
		propose(1, 0, a, va), exact(propose(1, 0, a, va)), propose(2, 0, a, later), propose(1, 2, a, va), exact(propose(2, 2, a, va)), exact(propose(2, 3, a, value(at(9, 3), b))),
		propose(2, 0, b, vb), exact(propose(2, 0, b, value(at(8, 2)))), propose(2, 0, b, value(at(3, 2))), propose(3, 3, b, vb), exact(propose(3, 3, b, value(at(3, 2)))),
		prepare(3, 2, a), prepare(0, 3, b), prepare(0, 0, a), accept(1, 0, a, va), accept(1, 1, a, later), accept(2, 2, b, vb),
		stable(1, a, va), stable(2, a, later), stable(2, b, vb), stable(3, b, value(at(8, 2))), stable(0, far, va), propose(8, 0, far, later),
		propose(1, 0, place(33, 0), va), propose(1, 0, a, value(at(60, 0), place(33, 0))), api.Msg{Sort: api.Reject, Cmd: a},
	)
	begins := []struct {
		node, clock int
		l           []entry.Entry
	}{
		{0, 0, nil},
		{8, lastClock - 1, list(reserved(bare(b), at(3, 0), at(9, 0)))},
		{4, 1, list(voted(holder(a, at(5, 1)), va), done(bare(place(64, 0)), value(at(7, 0), b)))},
		{1, 5, list(holder(place(64, 0), at(6, 6)), rich(b))},
	}
	did := map[string]int{}
	for _, x := range begins {
		for i := range len(l) * len(l) * len(l) {
			v, w := begin(t, x.node, x.clock, x.l...)
			for _, k := range []int{i / len(l) / len(l), i / len(l) % len(l), i % len(l)} {
				do(t, v, w, l[k])
			}
			for k, n := range w.did {
				did[k] += n
			}
		}
	}
	// For one to be left two have to wait, and a stable has to come behind, which is one message more. That one is told no
	// more takes as many, but where a proposal waits that the stable settles.
	enough(t, did, 50, "left", "told no more")
}

// enough tells whether each of what a voter can do was done, but what is left out.
func enough(t *testing.T, did map[string]int, least int, out ...string) {
	t.Helper()
	for _, k := range []string{
		"not taken", "not learned", "done with another one", "over", "left", "told no more", "accept at nought", "waits", "waits instead",
		"propose came: okay true", "propose came: okay false", "propose came: refuse false", "propose came: reject false", "propose came: stable false",
		"propose waited: okay true", "propose waited: okay false", "propose waited: refuse false", "propose waited: reject false", "propose waited: stable false",
		"prepare came: promise true", "prepare came: promise false", "prepare came: reject false", "prepare came: stable false",
		"accept came: accepted false", "accept came: reject false", "accept came: stable false",
	} {
		if did[k] < least && !slices.Contains(out, k) {
			t.Errorf("%s: %d times", k, did[k])
		}
	}
}

// source makes messages of a few commands, with values that come again.
type source struct {
	*rand.Rand
	base int  // of the counts
	once bool // no two values of a command have one timestamp
	pool map[int][]api.Value
}

func newSource(seed int64, base int) *source {
	return &source{Rand: rand.New(rand.NewSource(seed)), base: base, pool: map[int][]api.Value{}}
}

// cmd is one of a few, mostly of one symbol; seldom another one of a name.
func (s *source) cmd() api.Cmd {
	id := []int{16, 17, 33, 48, 49, 50}[s.Intn(6)]
	c := place(id, 0)
	if id == 50 {
		c = cancel(50, 1, 17)
	}
	if s.Intn(150) == 0 {
		c.Qty++
	}
	return c
}

// value is one for a command, mostly one that was made for it already.
func (s *source) value(c api.Cmd) api.Value {
	if l := s.pool[c.ID]; len(l) > 0 && s.Intn(4) > 0 {
		return l[s.Intn(len(l))]
	}
	v := value(at(s.base+1+s.Intn(12), s.Intn(replicas)))
	if s.once && slices.ContainsFunc(s.pool[c.ID], func(o api.Value) bool { return o.T == v.T }) {
		return s.value(c)
	}
	often := s.Intn(5)
	for _, id := range []int{16, 17, 33, 48, 49} {
		if id != c.ID && s.Intn(4) < often {
			v.P = append(v.P, place(id, 0))
		}
	}
	s.pool[c.ID] = append(s.pool[c.ID], v)
	return v
}

// msg is any of the four sorts, mostly a proposal, and seldom one that isn't taken.
func (s *source) msg() api.Msg {
	c := s.cmd()
	from, bal := s.Intn(3), s.Intn(5)*s.Intn(2)
	switch k := s.Intn(40); {
	case k < 3:
		return prepare(from, bal, c)
	case k < 7:
		return accept(from, bal, c, s.value(c))
	case k < 11:
		return stable(from, c, s.value(c))
	case k == 11:
		l := wrongMsgs()
		return l[s.Intn(len(l))]
	case k == 12:
		l := others(c, s.value(c))
		return l[s.Intn(len(l))]
	case k < 28:
		return propose(from, bal, c, s.value(c))
	}
	return exact(propose(from, bal, c, s.value(c)))
}

// TestLongRows is P14.1: long rows of any messages, held against the words.
func TestLongRows(t *testing.T) {
	did := map[string]int{}
	for seed := range int64(3000) {
		s := newSource(seed, 0)
		if seed%2 == 0 {
			s.base = lastClock - 13 - int(seed/2%10)
		}
		v, w := begin(t, s.Intn(replicas), s.base)
		for range 60 {
			if s.Intn(20) == 0 {
				// The index is asked, and told, through the voter as well.
				r := s.value(place(16, 0)).T
				v.See(r)
				w.see(r)
			}
			do(t, v, w, s.msg())
		}
		for k, n := range w.did {
			did[k] += n
		}
	}
	enough(t, did, 40)
}

// saidOkay is what was said okay to: a command, and a value.
type saidOkay struct {
	c api.Cmd
	v api.Value
}

// pairs counts how often of two that conflict the later one had the greater timestamp, and the lesser one, and how often
// an okay was said again.
type pairs struct{ greater, lesser, again int }

// stays tells whether an okay stands with all that were said ahead of it. The timestamp of one that is done is that of its
// value. An okay that was said already, as the vote stands, is no later one.
func (n *pairs) stays(t *testing.T, v *voter.Voter, ahead []saidOkay, s saidOkay, a api.Msg) {
	t.Helper()
	if a.Flag && slices.ContainsFunc(ahead, func(o saidOkay) bool { return o.c == s.c && sameValue(o.v, s.v) }) {
		n.again++
		return
	}
	for _, o := range ahead {
		if o.c.Symbol != s.c.Symbol || o.c.ID == s.c.ID {
			continue
		}
		e, _ := v.Get(o.c.ID)
		stamp := o.v.T
		if e.Done {
			stamp = e.V.T
		}
		if stamp < s.v.T {
			n.greater++
			if !in(s.v.P, o.c.ID) && !in(a.V.P, o.c.ID) {
				t.Fatalf("%s wasn't told of %s", short(s), short(o))
			}
		}
		if stamp > s.v.T {
			n.lesser++
			if !e.Done || !in(e.V.P, s.c.ID) {
				t.Fatalf("%s is okay behind %s", short(s), short(o))
			}
		}
	}
}

// TestWhatWasSaidStays is P14.2: whatever is taken, what was promised never falls; of two that conflict, and are said okay
// to, the later one is told the earlier one, if that has the lesser timestamp, and it isn't among its P; with the lesser
// timestamp it is said okay to only if the other one is done, and has it among its P.
func TestWhatWasSaidStays(t *testing.T) {
	var n pairs
	promises := 0
	for seed := range int64(3000) {
		s := newSource(seed+5000, 0)
		s.once = true
		v, _ := begin(t, s.Intn(replicas), 0)
		was := map[int]int{}
		var ahead []saidOkay
		for range 50 {
			m := s.msg()
			for _, a := range v.Handle(m) {
				if a.Sort != api.Okay {
					continue
				}
				values := s.pool[a.Cmd.ID]
				of := slices.IndexFunc(values, func(v api.Value) bool { return v.T == a.V.T })
				said := saidOkay{a.Cmd, values[of]}
				n.stays(t, v, ahead, said, a)
				ahead = append(ahead, said)
			}
			for _, e := range v.All() {
				if e.Promised < was[e.Cmd.ID] {
					t.Fatalf("%d promised %d, then %d", e.Cmd.ID, was[e.Cmd.ID], e.Promised)
				}
				if e.Promised > was[e.Cmd.ID] {
					promises++
				}
				was[e.Cmd.ID] = e.Promised
			}
		}
	}
	if promises < 1000 || n.greater < 1000 || n.lesser < 1000 || n.again < 1000 {
		t.Errorf("promised %d times, %+v", promises, n)
	}
}

// TestSaidExamples is P14.2: each way of it by itself.
func TestSaidExamples(t *testing.T) {
	a, b := place(17, 0), place(33, 0)
	low, high := propose(1, 0, a, value(at(5, 1))), propose(2, 0, b, value(at(9, 2)))
	// The later one has the greater timestamp: it is told the earlier one, or has it.
	v := made(t, 0)
	tells(t, v, low, quick(low))
	tells(t, v, high, okay(high, a))
	high.V.P = cmds(a)
	tells(t, v, high, quick(high))
	// The lesser one: not while the other one isn't done, nor if that is done without it, but with it.
	for _, bal := range []int{0, 2} {
		low, high := propose(1, bal, a, value(at(5, 1))), propose(2, 0, b, value(at(9, 2)))
		v = made(t, 0)
		tells(t, v, high, quick(high))
		tells(t, v, low)
		tells(t, v, exact(low))
		tells(t, v, stable(2, b, value(at(9, 2), a)), allowed(exact(low)))
		v = made(t, 0)
		tells(t, v, high, quick(high))
		tells(t, v, stable(2, b, value(at(9, 2))))
		tells(t, v, low, refuse(low, at(10, me), b))
		// What is done with a lesser timestamp than it was said okay to comes ahead.
		v = made(t, 0)
		tells(t, v, high, quick(high))
		tells(t, v, stable(2, b, value(at(4, 0))))
		tells(t, v, low, okay(low, b))
	}
	// A ballot that was promised is below none that comes.
	v = made(t, 0)
	for _, bal := range []int{0, 3, 2, 7, 0, 7, 6, mostBallot, mostBallot - 1, 0} {
		e, _ := v.Get(17)
		for _, m := range msgs(prepare(1, bal, a), accept(2, bal, a, value(at(5, 0))), propose(3, bal, a, value(at(7, 0)))) {
			v.Handle(m)
			if now, _ := v.Get(17); now.Promised != max(e.Promised, bal) {
				t.Errorf("%s: promised %d behind %d", short(m), now.Promised, e.Promised)
			}
		}
	}
}

// TestWhateverIsAsked is P1 and P2: each message is dealt with to its end, and two voters of one way tell the same,
// whatever others are told between.
func TestWhateverIsAsked(t *testing.T) {
	way := func(seed int64) string {
		s := newSource(seed, 0)
		if seed%3 == 0 {
			s.base = lastClock - 14
		}
		v, _ := begin(t, s.Intn(replicas), s.base)
		other, _ := begin(t, s.Intn(replicas), 0)
		told := ""
		for range 60 {
			m := s.msg()
			told += fmt.Sprint(v.Handle(m), v.Over(), v.Waiting(), v.All(), v.Clock(), v.Changed())
			other.Handle(s.msg())
		}
		return told
	}
	for seed := range int64(200) {
		first := way(seed)
		way(seed + 1)
		if again := way(seed); again != first {
			t.Fatalf("%s, then %s", short(first), short(again))
		}
	}
}
