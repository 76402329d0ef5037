package replica_test

import (
	"fmt"
	"math/rand"
	"slices"
	"testing"

	"lictor/api"
)

// beginning is what a replica has behind it: its disk's room, and acts.
type beginning struct {
	what string
	room int
	acts []act
}

// waits has a proposal of another one wait for a command of replica 1's own.
func waits() []act {
	return []act{submit(place(0, 0)), receive(propose(0, 1, 0, place(16, 0), value(at(1, 0))))}
}

// beginnings are some of replica 1, of three.
func beginnings() []beginning {
	mine := place(17, 0)
	settled := []act{submit(place(0, 0)), receive(okay(0, 1, mine, at(1, 1))), receive(okay(2, 1, mine, at(1, 1)))}
	return []beginning{
		{"nothing", roomy, nil},
		{"a submitted one", roomy, []act{submit(place(0, 0))}},
		{"one that waits", roomy, waits()},
		{"one that is done", roomy, settled},
		{"one that is taken over", roomy, []act{receive(propose(0, 1, 0, place(16, 0), value(at(1, 0)))), timer(16)}},
		{"a full clock", roomy, []act{submit(place(0, 0)), receive(stable(2, 1, place(18, 1), value(at(lastClock, 2))))}},
		{"one tick left", roomy, append(waits(), receive(stable(2, 1, place(18, 1), value(at(lastClock-1, 2)))))},
		{"no name left", roomy, []act{receive(prepare(0, 1, 2, place(lastName+2, 0)))}},
		{"no ballot left", roomy, []act{submit(place(0, 0)), receive(reject(2, 1, 0, mine, api.MaxBallot-1))}},
		{"a little room", 120, []act{submit(place(0, 0))}},
		{"hardly any room", 30, nil},
	}
}

// begin is a pair that has done a beginning.
func (b beginning) begin(t *testing.T) *pair {
	t.Helper()
	p := onDisk(t, 1, 3, newDisk(t, b.room))
	for _, x := range b.acts {
		p.do(t, x)
	}
	return p
}

// alphabet are acts of replica 1, of three, one of each kind at least.
func alphabet() []act {
	mine, his, third := place(17, 0), place(16, 0), sell(18, 0, 5, 1)
	return []act{
		submit(place(0, 0)),
		submit(api.Cmd{Symbol: api.MaxSymbols}),
		receive(propose(0, 1, 0, his, value(at(1, 0)))),
		receive(propose(2, 1, 0, third, value(at(1, 2), mine))),
		receive(exact(propose(2, 1, 4, mine, value(at(1, 1))))),
		receive(prepare(0, 1, 5, mine)),
		receive(prepare(0, 1, 2, his)),
		receive(accept(2, 1, 4, mine, value(at(2, 2), his))),
		receive(stable(2, 1, mine, value(at(1, 1)))),
		receive(stable(0, 1, his, value(at(1, 0)))),
		receive(stable(2, 1, third, value(at(1, 2), mine))),
		receive(okay(0, 1, mine, at(1, 1))),
		receive(okay(2, 1, mine, at(1, 1))),
		receive(refuse(0, 1, 0, mine, at(1, 1), at(3, 0), his)),
		receive(refuse(2, 1, 0, mine, at(1, 1), at(4, 2))),
		receive(promise(0, 1, 3, mine, at(5, 0))),
		receive(promise(2, 1, 3, his, at(5, 2))),
		receive(accepted(0, 1, 1, mine)),
		receive(reject(2, 1, 3, mine, 6)),
		timer(17),
		timer(16),
		hurry(17),
		breaks(),
	}
}

// TestRows is P18.1, for all rows of two acts behind each beginning, and for all of three behind some.
func TestRows(t *testing.T) {
	t.Parallel()
	acts := alphabet()
	for i, b := range beginnings() {
		for _, x := range acts {
			for _, y := range acts {
				third := []act{{kind: "none"}}
				if i < 3 {
					third = acts
				}
				for _, z := range third {
					p := b.begin(t)
					p.do(t, x)
					p.do(t, y)
					if z.kind != "none" {
						p.do(t, z)
					}
				}
			}
		}
	}
}

// someCmd is one of those of which rows speak. Its symbol goes by its name, but seldom another one's.
func someCmd(r *rand.Rand) api.Cmd {
	id := []int{16, 17, 18, 33, 34, 48}[r.Intn(6)]
	c := place(id, id/16%2)
	if id%16 == 2 {
		c = sell(id, id/16%2, 4, 1)
	}
	if r.Intn(40) == 0 {
		c.Symbol = r.Intn(api.MaxSymbols + 1)
	}
	return c
}

func someStamp(r *rand.Rand) int {
	if r.Intn(200) == 0 {
		return at(lastClock, 2)
	}
	return at(1+r.Intn(6), r.Intn(3))
}

// someSet is a set of those that may be, without a command itself, mostly.
func someSet(r *rand.Rand, c api.Cmd) []api.Cmd {
	var p []api.Cmd
	for _, id := range []int{16, 17, 18, 33, 34, 48} {
		if o := place(id, id/16%2); id != c.ID && id%16 != 2 && r.Intn(4) == 0 {
			p = append(p, o)
		}
	}
	return p
}

func someBallot(r *rand.Rand) int {
	return []int{0, 0, 0, 1, 2, 3, 3, 3, 4, 5, 6, 6, api.MaxBallot}[r.Intn(12+r.Intn(30)/29)]
}

// someMsg is a message to replica 1 of three, mostly one that may be.
func someMsg(r *rand.Rand) api.Msg {
	c := someCmd(r)
	m := api.Msg{Sort: api.Sort(r.Intn(9)), From: r.Intn(3), To: 1, Bal: someBallot(r), Cmd: c}
	switch m.Sort {
	case api.Propose, api.Okay:
		m.V, m.Flag = value(someStamp(r), someSet(r, c)...), r.Intn(2) == 0
	case api.Refuse:
		m.V, m.S = value(someStamp(r), someSet(r, c)...), someStamp(r)
	case api.Promise:
		m.V.P, m.S, m.Flag = someSet(r, c), someStamp(r), r.Intn(3) == 0
		if r.Intn(2) == 0 {
			m.F = value(someStamp(r), someSet(r, c)...)
		}
		if r.Intn(4) == 0 {
			m.AB, m.A = 1+r.Intn(4), value(someStamp(r), someSet(r, c)...)
		}
	case api.Accept, api.Stable:
		m.V = value(someStamp(r), someSet(r, c)...)
	case api.Reject:
		m.AB = someBallot(r)
	}
	switch r.Intn(60) {
	case 0:
		m.From = 3
	case 1:
		m.To = 0
	case 2:
		m.Flag = !m.Flag
	case 3:
		m.Sort = api.Sort(r.Intn(12) - 1)
	}
	return m
}

// reply is one to what a replica's attempt asks, which rows of any messages seldom hit.
func reply(r *rand.Rand, p *pair) (api.Msg, bool) {
	l := p.r.Entries()
	if len(l) == 0 {
		return api.Msg{}, false
	}
	m := api.Msg{From: []int{0, 2}[r.Intn(2)], To: 1, Cmd: l[r.Intn(len(l))].Cmd}
	_, bal, v := p.w.leader.At(m.Cmd.ID)
	m.Bal = bal
	switch r.Intn(5) {
	case 0:
		m.Sort, m.S = api.Promise, someStamp(r)
	case 1:
		m.Sort = api.Accepted
	case 2:
		m.Sort, m.V.T, m.S = api.Refuse, v.T, someStamp(r)
	default:
		m.Sort, m.V.T, m.Flag = api.Okay, v.T, r.Intn(2) == 0
	}
	return m, true
}

func someAct(r *rand.Rand, p *pair) act {
	switch r.Intn(12) {
	case 0:
		return submit([]api.Cmd{place(0, 0), place(0, 1), sell(0, 0, 4, 1), cancel(0, 1, 33), {Symbol: -1}, {Kind: 3}}[r.Intn(6)])
	case 1:
		return timer(someCmd(r).ID)
	case 2:
		return hurry(someCmd(r).ID)
	case 3:
		if r.Intn(12) == 0 {
			return breaks()
		}
	case 4, 5, 6:
		if m, ok := reply(r, p); ok {
			return receive(m)
		}
	}
	return receive(someMsg(r))
}

// TestLongRows is P18.1 and P18.2 for long rows of any acts, also of messages that no replica would send.
func TestLongRows(t *testing.T) {
	t.Parallel()
	count := map[string]int{}
	for seed := range int64(1500) {
		r := rand.New(rand.NewSource(seed))
		some := beginnings()
		p := some[r.Intn(len(some))].begin(t)
		for range 45 {
			x := someAct(r, p)
			got := p.do(t, x)
			count[fmt.Sprintf("%s %d", x.kind, got.err)]++
			if x.kind == "receive" && got.err == api.OK && len(got.sent) > 0 {
				count[fmt.Sprintf("of sort %d", x.m.Sort)]++
			}
			if got.err == api.OK && len(got.sent) > 0 && r.Intn(4) == 0 {
				forgetsNothing(t, p.r, p.d, 1, 3)
			}
			if got.err == api.ErrHalt && r.Intn(3) == 0 {
				p.d.Crash(r.Intn(300))
				p = onDisk(t, 1, 3, p.d)
				count["again"]++
			}
		}
		count["delivered"] += len(p.r.Delivered())
		for _, e := range p.r.Entries() {
			if e.Done && !slices.Contains(p.r.Delivered(), e.Cmd.ID) {
				count["done, not delivered"]++
			}
		}
	}
	for _, what := range []string{"submit 0", "submit 1", "submit 8", "submit 10", "receive 0", "receive 1", "receive 10",
		"timer 0", "timer 5", "timer 10", "hurry 0", "hurry 5", "hurry 10", "break 0", "again", "delivered", "done, not delivered",
		"of sort 0", "of sort 1", "of sort 2", "of sort 3", "of sort 4", "of sort 5", "of sort 6", "of sort 7"} {
		if count[what] < 40 {
			t.Errorf("%s: %d", what, count[what])
		}
	}
}
