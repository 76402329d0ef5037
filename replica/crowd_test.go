package replica_test

import (
	"math/rand"
	"slices"
	"testing"

	"lictor/api"
	"lictor/disk"
	"lictor/entry"
	"lictor/replica"
)

// crowd are all replicas of a cluster, and what is on its way to them.
type crowd struct {
	*rand.Rand
	t     *testing.T
	n     int
	pairs []*pair
	way   []api.Msg
	had   map[int]entry.Entry // what was done anywhere, ever, by names
	told  map[int]api.Reply   // what was answered anywhere, ever
	count map[string]int
}

func newCrowd(t *testing.T, n int, seed int64, room int) *crowd {
	c := &crowd{Rand: rand.New(rand.NewSource(seed)), t: t, n: n, had: map[int]entry.Entry{}, told: map[int]api.Reply{},
		count: map[string]int{}}
	for node := range n {
		c.pairs = append(c.pairs, onDisk(t, node, n, newDisk(t, room)))
	}
	return c
}

// do has a replica do an act. What it sends is on its way, and can't be forgotten.
func (c *crowd) do(node int, x act) {
	p := c.pairs[node]
	got := p.do(c.t, x)
	c.count[x.kind]++
	if got.err == api.ErrHalt {
		c.count["halted"]++
	}
	// Not each time, as it takes long: what was forgotten once is so behind other steps, too.
	if got.err == api.OK && len(got.sent) > 0 && c.Intn(8) == 0 {
		forgetsNothing(c.t, p.r, p.d, node, c.n)
		c.count["asked again"]++
	}
	c.way = append(c.way, got.sent...)
	c.agree(p)
}

// forgetsNothing is P18.2: a new replica on a replica's disk, that has crashed, has the same.
func forgetsNothing(t *testing.T, r *replica.Replica, d *disk.Disk, node, n int) {
	again := d.Clone()
	again.Crash(0)
	other, err := replica.New(node, n, again)
	if err != api.OK {
		t.Fatalf("on its disk: %v", err)
	}
	if !slices.EqualFunc(r.Entries(), other.Entries(), entry.Same) {
		t.Fatalf("on its disk: %s, want %s", textOfEntries(other.Entries()), textOfEntries(r.Entries()))
	}
	ours, theirs := slices.Sorted(slices.Values(r.Delivered())), slices.Sorted(slices.Values(other.Delivered()))
	if !slices.Equal(ours, theirs) {
		t.Fatalf("on its disk: delivered %v, want %v", theirs, ours)
	}
}

// agree looks at what a replica has against all that any had: one that is done is done with one value, the later one of a
// symbol has the earlier one ahead, what is delivered of a symbol has rising timestamps, and is answered as elsewhere.
func (c *crowd) agree(p *pair) {
	for _, e := range p.r.Entries() {
		if !e.Done {
			continue
		}
		other, has := c.had[e.Cmd.ID]
		if has && (other.Cmd != e.Cmd || other.V.T != e.V.T || !slices.Equal(other.V.P, e.V.P)) {
			c.t.Fatalf("done as %s", textOfEntries([]entry.Entry{e, other}))
		}
		if has {
			continue
		}
		for _, o := range c.had {
			if o.V.T == e.V.T || o.Cmd.Symbol == e.Cmd.Symbol && !inOrder(o, e) && !inOrder(e, o) {
				c.t.Fatalf("done are %s", textOfEntries([]entry.Entry{e, o}))
			}
		}
		c.had[e.Cmd.ID] = e
		c.count["done"]++
	}
	var last [api.MaxSymbols]int
	for _, a := range p.r.Answers() {
		e := c.had[a.ID]
		if e.V.T <= last[e.Cmd.Symbol] {
			c.t.Fatalf("%d is delivered behind %d", e.V.T, last[e.Cmd.Symbol])
		}
		last[e.Cmd.Symbol] = e.V.T
		reply, has := c.told[a.ID]
		if has && !sameReply(reply, a.Reply) {
			c.t.Fatalf("%d is answered %v, and %v", a.ID, reply, a.Reply)
		}
		c.told[a.ID] = a.Reply
	}
}

// inOrder tells whether one is earlier than another one, and among what comes ahead of that.
func inOrder(a, b entry.Entry) bool { return a.V.T < b.V.T && slices.Contains(b.V.P, a.Cmd) }

// any is any command.
func (c *crowd) any() api.Cmd {
	o := api.Cmd{Kind: api.Kind(c.Intn(4) % 3), Symbol: c.Intn(2)}
	if o.Kind == api.Place {
		o.Side, o.Price, o.Qty = api.Side(c.Intn(2)), 3+c.Intn(4), 1+c.Intn(3)
		return o
	}
	o.Target = 16*(1+c.Intn(8)) + c.Intn(c.n)
	if o.Kind == api.Amend {
		o.Qty = c.Intn(4)
	}
	return o
}

// name is one that a replica knows, or not.
func (c *crowd) name(node int) int {
	l := c.pairs[node].r.Entries()
	if len(l) == 0 || c.Intn(20) == 0 {
		return 16*(1+c.Intn(8)) + c.Intn(c.n)
	}
	return l[c.Intn(len(l))].Cmd.ID
}

// take takes what is on its way at a place; it may be lost, or doubled.
func (c *crowd) take(i int, lost, doubled bool) {
	m := c.way[i]
	if !doubled {
		c.way = slices.Delete(c.way, i, i+1)
	}
	if !lost {
		c.do(m.To, receive(m))
	}
}

// restart crashes a replica's disk, of which so much is kept that was not synced, and has a new one on it.
func (c *crowd) restart(node, keep int) {
	p := c.pairs[node]
	p.d.Crash(keep)
	c.pairs[node] = onDisk(c.t, node, c.n, p.d)
	c.count["restarts"]++
	c.agree(c.pairs[node])
}

// step does anything.
func (c *crowd) step(seldom, most int) {
	node := c.Intn(c.n)
	switch k := c.Intn(seldom); {
	case k == 0 && len(c.had) < most:
		c.do(node, submit(c.any()))
	case k == 1:
		c.do(node, timer(c.name(node)))
	case k == 2:
		c.do(node, hurry(c.name(node)))
	case k == 3:
		c.do(node, breaks())
		c.some(node)
		c.restart(node, c.Intn(200))
	case k == 4 && c.Intn(3) == 0:
		c.restart(node, c.Intn(200))
	case len(c.way) > 0:
		c.take(c.Intn(len(c.way)), k == 5, k == 6)
	}
	if c.pairs[node].r.Halted() {
		c.restart(node, c.Intn(200))
	}
}

// some has a replica do some act: that which it is to break in.
func (c *crowd) some(node int) {
	for i, m := range c.way {
		if m.To == node && c.Intn(4) > 0 {
			c.take(i, false, false)
			return
		}
	}
	c.do(node, []act{submit(c.any()), timer(c.name(node)), hurry(c.name(node))}[c.Intn(3)])
}

// drain takes all that is on its way, the first one first.
func (c *crowd) drain() {
	for len(c.way) > 0 {
		c.take(0, false, false)
	}
}

// TestCrowd is P18.1 and P18.2 in a cluster: whatever is lost, doubled and late, whoever breaks, crashes, starts again, takes
// over, hurries, or is asked, each does what the words say, forgets nothing that was said, and they agree; behind rounds in
// which nothing is lost all is done, and delivered, everywhere.
func TestCrowd(t *testing.T) {
	t.Parallel()
	count := map[string]int{}
	for seed := range int64(28) {
		n := leastNodes + int(seed)%7
		c := newCrowd(t, n, seed, roomy)
		for range 50 * n {
			c.step(10+int(seed)%50, 12)
		}
		c.drain()
		for range 3 {
			for node, p := range c.pairs {
				for _, e := range p.r.Entries() {
					c.do(node, timer(e.Cmd.ID))
					c.drain()
				}
			}
		}
		most := 0
		for _, p := range c.pairs {
			most = max(most, len(p.r.Entries()))
		}
		for node, p := range c.pairs {
			if len(p.r.Delivered()) != most || p.r.Halted() || !sameMarket(p.r.Market(), c.pairs[0].r.Market()) {
				t.Fatalf("seed %d: %d of %d are delivered at %d", seed, len(p.r.Delivered()), most, node)
			}
		}
		for what, many := range c.count {
			count[what] += many
		}
	}
	for _, what := range []string{"submit", "receive", "timer", "hurry", "break", "halted", "restarts", "done", "asked again"} {
		if count[what] < 100 {
			t.Errorf("%s: %d", what, count[what])
		}
	}
}

// TestLittleRoom is the same on disks that get full: whoever halts goes on as a new one, which halts once more.
func TestLittleRoom(t *testing.T) {
	t.Parallel()
	full := 0
	for seed := range int64(150) {
		n := leastNodes + int(seed)%3
		c := newCrowd(t, n, seed, 100+int(seed)*7)
		for range 60 * n {
			c.step(10+int(seed)%50, 12)
		}
		full += c.count["halted"]
	}
	if full < 1000 {
		t.Errorf("%d halted", full)
	}
}
