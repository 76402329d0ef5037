package leader_test

import (
	"math/rand"
	"testing"

	"lictor/api"
	"lictor/entry"
	"lictor/index"
	"lictor/leader"
	"lictor/stamp"
	"lictor/voter"
)

// member is a replica that has a voter, and a leader.
type member struct {
	v     *voter.Voter
	l     *leader.Leader
	heard map[int]int // the ballots by which it was rejected
}

// crowd are members, and what is on its way to them.
type crowd struct {
	*rand.Rand
	t       *testing.T
	members []member
	way     []api.Msg
	asked   []api.Cmd
}

func newCrowd(t *testing.T, n int, seed int64) *crowd {
	c := &crowd{Rand: rand.New(rand.NewSource(seed)), t: t}
	for node := range n {
		x, err := index.New(node, 0)
		v, wrong := voter.New(x)
		if err != api.OK || wrong != api.OK {
			t.Fatal(err, wrong)
		}
		c.members = append(c.members, member{v, play(t, n, node).l, map[int]int{}})
	}
	return c
}

// deal deals with messages at a member: those to itself at once, the others are on their way.
func (c *crowd) deal(node int, l []api.Msg) {
	x := c.members[node]
	for len(l) > 0 {
		m := l[0]
		l = l[1:]
		if m.To != node {
			c.way = append(c.way, m)
			continue
		}
		switch m.Sort {
		case api.Propose, api.Prepare, api.Accept, api.Stable:
			l = append(l, x.v.Handle(m)...)
		case api.Reject:
			x.heard[m.Cmd.ID] = max(x.heard[m.Cmd.ID], m.AB)
		}
		l = append(l, x.l.Handle(m)...)
	}
}

// submit asks a command at a member, of one of two symbols.
func (c *crowd) submit(node int) {
	x := c.members[node]
	o := api.Cmd{ID: 16*(1+len(c.asked)) + node, Symbol: c.Intn(2), Side: api.Side(c.Intn(2)), Price: 5, Qty: 2}
	s, err := x.v.Tick()
	if err != api.OK {
		c.t.Fatal(err)
	}
	c.asked = append(c.asked, o)
	c.deal(node, x.l.Start(o, value(s, x.v.Pred(o, s)...)))
}

// timer takes a command over, with the next ballot, or tells the others how it is done.
func (c *crowd) timer(node, id int) {
	x := c.members[node]
	e, has := x.v.Get(id)
	if !has {
		return
	}
	if e.Done {
		c.deal(node, to(len(c.members), node, api.Msg{Sort: api.Stable, Cmd: e.Cmd, V: e.V}))
		return
	}
	b, err := stamp.Above(max(e.Promised, x.heard[id]), node, len(c.members))
	if err != api.OK {
		c.t.Fatal(err)
	}
	c.deal(node, x.l.Take(e.Cmd, b))
}

// take takes what is on its way at a place, and deals with it, unless it is lost; it may be doubled.
func (c *crowd) take(i int, lost, doubled bool) {
	m := c.way[i]
	if !doubled {
		c.way = append(c.way[:i:i], c.way[i+1:]...)
	}
	if !lost {
		c.deal(m.To, []api.Msg{m})
	}
}

// step does anything.
func (c *crowd) step(seldom int) {
	node := c.Intn(len(c.members))
	switch k := c.Intn(seldom); {
	case k == 0 && len(c.asked) < 12:
		c.submit(node)
	case k == 1 && len(c.asked) > 0:
		c.timer(node, c.asked[c.Intn(len(c.asked))].ID)
	case k == 2 && len(c.asked) > 0:
		c.deal(node, c.members[node].l.Hurry(c.asked[c.Intn(len(c.asked))].ID))
	case len(c.way) > 0:
		c.take(c.Intn(len(c.way)), k == 3, k == 4)
	}
}

// drain takes all that is on its way.
func (c *crowd) drain() {
	for len(c.way) > 0 {
		c.take(0, false, false)
	}
}

// agree tells whether all members' entries that are done are the same, and of two of one symbol the later one has the earlier
// one ahead; how many are done.
func (c *crowd) agree() int {
	var done []entry.Entry
	byName := map[int]entry.Entry{}
	for _, x := range c.members {
		for _, e := range x.v.All() {
			if !e.Done {
				continue
			}
			other, has := byName[e.Cmd.ID]
			if has && (other.Cmd != e.Cmd || !sameValue(other.V, e.V)) {
				c.t.Fatalf("done as %s, and as %s", short(other), short(e))
			}
			if !has {
				done = append(done, e)
			}
			byName[e.Cmd.ID] = e
		}
	}
	for _, a := range done {
		for _, b := range done {
			if a.Cmd.ID == b.Cmd.ID {
				continue
			}
			ahead := false
			for _, x := range b.V.P {
				ahead = ahead || x == a.Cmd
			}
			if a.V.T == b.V.T || a.Cmd.Symbol == b.Cmd.Symbol && a.V.T < b.V.T && !ahead {
				c.t.Fatalf("%s, and then %s", short(a), short(b))
			}
		}
	}
	return len(done)
}

// TestWithVoters is P16.1 and P16.2 among voters: whatever is lost, doubled and late, and whoever takes over, hurries, or is
// asked, they agree; and behind rounds in which nothing is lost all is done.
func TestWithVoters(t *testing.T) {
	done := 0
	for seed := range int64(350) {
		n := leastNodes + int(seed)%7
		c := newCrowd(t, n, seed)
		for range 60 * n {
			c.step(8 + int(seed)%60)
		}
		done += c.agree()
		c.drain()
		for range 3 {
			for node, x := range c.members {
				for _, e := range x.v.All() {
					c.timer(node, e.Cmd.ID)
					c.drain()
				}
			}
		}
		many := 0
		for _, x := range c.members {
			many = max(many, len(x.v.All()))
		}
		if c.agree() != many {
			t.Fatalf("seed %d: %d of %d are done", seed, c.agree(), many)
		}
	}
	if done < 1000 {
		t.Errorf("%d were done ahead of the rounds", done)
	}
}
