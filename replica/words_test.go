package replica_test

import (
	"bytes"
	"slices"
	"testing"

	"lictor/api"
	"lictor/cmd"
	"lictor/disk"
	"lictor/entry"
	"lictor/index"
	"lictor/journal"
	"lictor/leader"
	"lictor/market"
	"lictor/order"
	"lictor/replica"
	"lictor/voter"
	"lictor/wire"
)

// words are the chapter's own replica, done as its words stand there, by the layers below.
type words struct {
	*voter.Voter
	node, n int
	disk    *disk.Disk
	journal *journal.Journal
	leader  *leader.Leader
	market  *market.Market
	names   []int
	replies []api.Reply
	heard   map[int]int
	breaks  bool
	halted  bool
}

func newWords(node, n int, d *disk.Disk) (*words, api.Errno) {
	if n < 3 || n > 9 || node < 0 || node > n-1 {
		return nil, api.ErrArg
	}
	j, err := journal.Open(d)
	if err != api.OK {
		return nil, err
	}
	l, clock := j.Kept()
	x, _ := index.New(node, clock, l...)
	v, _ := voter.New(x)
	leads, _ := leader.New(node, n)
	w := &words{Voter: v, node: node, n: n, disk: d, journal: j, leader: leads, market: market.New(), heard: map[int]int{}}
	w.deliver()
	return w, api.OK
}

// deliver does what comes next, one by one.
func (w *words) deliver() {
	for {
		c, ok := order.Next(w.All(), w.names...)
		if !ok {
			return
		}
		w.names = append(w.names, c.ID)
		w.replies = append(w.replies, w.market.Apply(c))
	}
}

// said is what a call tells.
type said struct {
	name int
	sent []api.Msg
	err  api.Errno
}

// halt has it halt: nothing is told.
func (w *words) halt() said {
	w.halted = true
	return said{err: api.ErrHalt}
}

// step deals with messages, those that are told behind all others.
func (w *words) step(name int, l []api.Msg) said {
	var sent []api.Msg
	for i := 0; i < len(l); i++ {
		m := l[i]
		if m.To != w.node {
			sent = append(sent, m)
			continue
		}
		switch m.Sort {
		case api.Propose, api.Prepare, api.Accept:
			l = append(l, w.Handle(m)...)
		case api.Okay, api.Refuse, api.Promise, api.Accepted:
			l = append(l, w.leader.Handle(m)...)
		case api.Stable:
			l = append(l, w.Handle(m)...)
			l = append(l, w.leader.Handle(m)...)
		case api.Reject:
			l = append(l, w.leader.Handle(m)...)
			if w.heard[m.Cmd.ID] < m.AB {
				w.heard[m.Cmd.ID] = m.AB
			}
		}
	}
	if w.Over() {
		return w.halt()
	}
	var changed []entry.Entry
	for _, id := range w.Changed() {
		e, _ := w.Get(id)
		changed = append(changed, e)
	}
	if len(changed) > 0 && w.journal.Put(w.Clock(), changed...) != api.OK {
		return w.halt()
	}
	if w.breaks {
		return w.halt()
	}
	w.journal.Sync()
	w.deliver()
	return said{name, sent, api.OK}
}

// next is the name of the next command; 0, if there is none.
func (w *words) next() int {
	for number := 1; number <= 256; number++ {
		above := true
		for _, e := range w.All() {
			above = above && number > e.Cmd.ID/16
		}
		if above {
			return 16*number + w.node
		}
	}
	return 0
}

// ballot is the next one of a command; 0, if there is none.
func (w *words) ballot(e entry.Entry) int {
	for b := 2 + w.node; b <= 1<<20; b += w.n {
		if b > e.Promised && b > w.heard[e.Cmd.ID] {
			return b
		}
	}
	return 0
}

// act is a call, and what it is handed.
type act struct {
	kind string
	c    api.Cmd
	m    api.Msg
	id   int
}

func submit(c api.Cmd) act { return act{kind: "submit", c: c} }

func receive(m api.Msg) act { return act{kind: "receive", m: m} }

func timer(id int) act { return act{kind: "timer", id: id} }

func hurry(id int) act { return act{kind: "hurry", id: id} }

func breaks() act { return act{kind: "break"} }

func (w *words) do(x act) said {
	if x.kind == "break" {
		w.breaks = true
		return said{}
	}
	if w.halted {
		return said{err: api.ErrHalt}
	}
	if x.kind == "submit" {
		return w.submit(x.c)
	}
	if x.kind == "receive" {
		if !wire.Right(x.m) || x.m.To != w.node || x.m.From >= w.n {
			return said{err: api.ErrArg}
		}
		return w.step(0, []api.Msg{x.m})
	}
	e, has := w.Get(x.id)
	if !has {
		return said{err: api.ErrNone}
	}
	if x.kind == "hurry" {
		return w.step(0, w.leader.Hurry(x.id))
	}
	return w.timer(e)
}

func (w *words) submit(c api.Cmd) said {
	c.ID = w.next()
	if c.ID == 0 {
		return said{err: api.ErrOver}
	}
	if !cmd.Right(c) {
		return said{err: api.ErrArg}
	}
	s, err := w.Tick()
	if err != api.OK {
		return w.halt()
	}
	return w.step(c.ID, w.leader.Start(c, value(s, w.Pred(c, s)...)))
}

func (w *words) timer(e entry.Entry) said {
	if e.Done {
		var l []api.Msg
		for to := range w.n {
			if to != w.node {
				l = append(l, api.Msg{Sort: api.Stable, From: w.node, To: to, Cmd: e.Cmd, V: e.V})
			}
		}
		return w.step(0, l)
	}
	b := w.ballot(e)
	if b == 0 {
		return w.halt()
	}
	return w.step(0, w.leader.Take(e.Cmd, b))
}

// do has a replica do an act.
func do(r *replica.Replica, x act) said {
	var s said
	switch x.kind {
	case "submit":
		s.name, s.sent, s.err = r.Submit(x.c)
	case "receive":
		s.sent, s.err = r.Receive(x.m)
	case "timer":
		s.sent, s.err = r.Timer(x.id)
	case "hurry":
		s.sent, s.err = r.Hurry(x.id)
	case "break":
		r.Break()
	}
	return s
}

func sameSaid(a, b said) bool {
	return a.name == b.name && a.err == b.err && slices.EqualFunc(a.sent, b.sent, wire.Same)
}

// pair is a replica, and the words' own, each on a disk.
type pair struct {
	r *replica.Replica
	d *disk.Disk
	w *words
}

// onDisk is a pair whose disks are like one.
func onDisk(t *testing.T, node, n int, d *disk.Disk) *pair {
	t.Helper()
	ours, theirs := d.Clone(), d.Clone()
	r, err := replica.New(node, n, ours)
	w, wrong := newWords(node, n, theirs)
	if err != api.OK || wrong != api.OK {
		t.Fatalf("New(%d, %d): %v, %v", node, n, err, wrong)
	}
	p := &pair{r, ours, w}
	p.look(t, "New")
	return p
}

func newPair(t *testing.T, node, n int) *pair {
	t.Helper()
	return onDisk(t, node, n, newDisk(t, roomy))
}

// do has both do an act, and looks at all that can be told; what it told.
func (p *pair) do(t *testing.T, x act) said {
	got, want := do(p.r, x), p.w.do(x)
	if !sameSaid(got, want) {
		t.Fatalf("%s:\n%s, want\n%s", textOf(x), textOfSaid(got), textOfSaid(want))
	}
	p.look(t, x)
	return got
}

// look holds all that a replica tells against the words' own.
func (p *pair) look(t *testing.T, behind any) {
	if fault := p.differs(); fault != "" {
		t.Helper()
		t.Fatalf("behind %s: %s", textOf(behind), fault)
	}
}

// differs is what is different of both; empty, if nothing is.
func (p *pair) differs() string {
	r, w := p.r, p.w
	switch {
	case r.Halted() != w.halted:
		return "Halted"
	case !slices.EqualFunc(r.Entries(), w.All(), entry.Same):
		return "Entries: " + textOfEntries(r.Entries()) + ", want " + textOfEntries(w.All())
	case r.Clock() != w.Clock():
		return "Clock"
	case !slices.EqualFunc(r.Waiting(), w.Waiting(), wire.Same):
		return "Waiting"
	case !slices.Equal(r.Delivered(), w.names):
		return "Delivered"
	case !sameAnswers(r.Answers(), w.names, w.replies):
		return "Answers"
	case !sameMarket(r.Market(), w.market):
		return "Market"
	case !bytes.Equal(p.d.Bytes(), w.disk.Bytes()):
		return "the disk's bytes"
	case p.d.Synced() != w.disk.Synced():
		return "how many are synced"
	}
	return ""
}

func sameAnswers(l []replica.Answer, names []int, replies []api.Reply) bool {
	if len(l) != len(names) {
		return false
	}
	for i, a := range l {
		if a.ID != names[i] || !sameReply(a.Reply, replies[i]) {
			return false
		}
	}
	return true
}

func sameReply(a, b api.Reply) bool {
	return a.Err == b.Err && a.Left == b.Left && slices.Equal(a.Fills, b.Fills)
}

func sameMarket(a, b *market.Market) bool {
	for s := range api.MaxSymbols {
		volume, value := a.Turnover(s)
		v, w := b.Turnover(s)
		if volume != v || value != w || !slices.Equal(a.Orders(s, api.Buy), b.Orders(s, api.Buy)) ||
			!slices.Equal(a.Orders(s, api.Sell), b.Orders(s, api.Sell)) {
			return false
		}
	}
	return true
}
