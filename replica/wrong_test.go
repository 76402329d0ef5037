package replica_test

import (
	"math"
	"math/rand"
	"testing"

	"lictor/api"
	"lictor/disk"
	"lictor/replica"
)

// anyNumber is any number, mostly one at which something ends.
func anyNumber(r *rand.Rand) int {
	l := []int{0, 1, 2, 3, 8, 9, 15, 16, 17, 18, 24, 25, 33, lastName, lastName + 8, lastName + 9, lastName + 16, at(lastClock, 8), at(lastClock+1, 0),
		api.MaxBallot - 1, api.MaxBallot, api.MaxBallot + 1, math.MaxInt, math.MinInt, math.MaxInt32, -1, -16, -17}
	if r.Intn(8) == 0 {
		return int(r.Uint64())
	}
	return l[r.Intn(len(l))]
}

func anyCmd(r *rand.Rand) api.Cmd {
	c := place(16+r.Intn(3), r.Intn(2))
	for _, part := range []*int{&c.ID, (*int)(&c.Kind), &c.Symbol, &c.Target, (*int)(&c.Side), &c.Price, &c.Qty} {
		if r.Intn(12) == 0 {
			*part = anyNumber(r)
		}
	}
	return c
}

func anyValue(r *rand.Rand) api.Value {
	v := api.Value{}
	if r.Intn(2) == 0 {
		v.T = at(1+r.Intn(3), r.Intn(3))
	}
	for range r.Intn(3) {
		v.P = append(v.P, anyCmd(r))
	}
	if r.Intn(8) == 0 {
		v.T = anyNumber(r)
	}
	return v
}

// anyMsg is any message, of which some may be.
func anyMsg(r *rand.Rand) api.Msg {
	if r.Intn(2) == 0 {
		m := someMsg(r)
		for _, part := range []*int{(*int)(&m.Sort), &m.From, &m.To, &m.Bal, &m.S, &m.AB, &m.V.T, &m.A.T, &m.F.T, &m.Cmd.ID} {
			if r.Intn(30) == 0 {
				*part = anyNumber(r)
			}
		}
		return m
	}
	return api.Msg{Sort: api.Sort(r.Intn(9)), From: anyNumber(r), To: 1, Bal: anyNumber(r), Cmd: anyCmd(r), V: anyValue(r), Flag: r.Intn(2) == 0,
		S: anyNumber(r), AB: anyNumber(r), A: anyValue(r), F: anyValue(r)}
}

func anyAct(r *rand.Rand) act {
	switch r.Intn(20) {
	case 0, 1, 2:
		return submit(anyCmd(r))
	case 3, 4, 5:
		return timer(anyNumber(r))
	case 6, 7, 8:
		return hurry(anyNumber(r))
	case 9:
		if r.Intn(20) == 0 {
			return breaks()
		}
	}
	return receive(anyMsg(r))
}

// TestAnyNumbers is P1: each call ends, at any numbers, on each replica, also one that halted, and on a nil one; and what it
// tells is the words' own, or ErrArg.
func TestAnyNumbers(t *testing.T) {
	t.Parallel()
	for seed := range int64(600) {
		r := rand.New(rand.NewSource(seed))
		some := beginnings()
		p := some[r.Intn(len(some))].begin(t)
		for range 60 {
			x := anyAct(r)
			p.do(t, x)
			if x.kind != "break" {
				is(t, do(nil, x), 0, api.ErrArg)
			}
		}
	}
	r := rand.New(rand.NewSource(1))
	for range 3000 {
		node, n := anyNumber(r), anyNumber(r)
		room := r.Intn(200)
		d := newDisk(t, room)
		if r.Intn(3) == 0 {
			b := make([]byte, r.Intn(room+1))
			r.Read(b)
			d.Append(b)
		}
		x, err := replica.New(node, n, []*disk.Disk{d, nil}[r.Intn(2)])
		if (x == nil) != (err != api.OK) {
			t.Fatalf("New(%d, %d): %v", node, n, err)
		}
	}
}

// TestAgain is P2: what a replica tells hangs on its disk and on the calls ahead alone.
func TestAgain(t *testing.T) {
	t.Parallel()
	for seed := range int64(60) {
		first := ""
		for again := range 3 {
			r := rand.New(rand.NewSource(seed))
			some := beginnings()
			p := some[int(seed)%len(some)].begin(t)
			text := ""
			for range 40 {
				text += textOfSaid(p.do(t, someAct(r, p)))
			}
			text += textOfEntries(p.r.Entries())
			if again > 0 && text != first {
				t.Fatalf("%s, and then %s", first, text)
			}
			first = text
		}
	}
}
