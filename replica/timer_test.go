package replica_test

import (
	"math"
	"testing"

	"lictor/api"
	"lictor/entry"
)

// TestNoEntry is a Timer and a Hurry of a name that the index has not.
func TestNoEntry(t *testing.T) {
	p := newPair(t, 1, 3)
	p.do(t, submit(place(0, 0)))
	// What is heard of a command is no entry of it.
	p.do(t, receive(reject(0, 1, 3, place(16, 0), 5)))
	was := p.d.Bytes()
	for _, id := range []int{16, 18, 33, 0, -1, 1, lastName + 1, math.MaxInt, math.MinInt} {
		is(t, p.do(t, timer(id)), 0, api.ErrNone)
		is(t, p.do(t, hurry(id)), 0, api.ErrNone)
	}
	if !isAs(p.d, was, len(was)) || p.r.Clock() != 1 {
		t.Error("something changed")
	}
}

// TestTimer is who takes over: with the least ballot of its own above what was promised, which it promises itself.
func TestTimer(t *testing.T) {
	each(func(n, node int) {
		c := place(16, 0)
		for promised := range 3 * n {
			p := newPair(t, node, n)
			p.do(t, receive(prepare(0, node, promised, c)))
			b := least(n, node, promised)
			is(t, p.do(t, timer(16)), 0, api.OK, all(n, node, prepare(node, 0, b, c))...)
			hasEntry(t, p.r, entry.Entry{Cmd: c, Promised: b})
			is(t, p.do(t, timer(16)), 0, api.OK, all(n, node, prepare(node, 0, b+n, c))...)
			hasEntry(t, p.r, entry.Entry{Cmd: c, Promised: b + n})
		}
	})
}

// TestTimerOfDone is one that is done: all others are told with which value, whatever was promised and heard.
func TestTimerOfDone(t *testing.T) {
	each(func(n, node int) {
		p := newPair(t, node, n)
		c, d := place(16, 0), place(17, 0)
		p.do(t, receive(prepare(0, node, api.MaxBallot, c)))
		p.do(t, receive(reject(0, node, 2, c, api.MaxBallot)))
		p.do(t, receive(stable(0, node, c, value(at(4, 2), d))))
		for range 2 {
			is(t, p.do(t, timer(16)), 0, api.OK, all(n, node, stable(node, 0, c, value(at(4, 2), d)))...)
			is(t, p.do(t, hurry(16)), 0, api.OK)
		}
	})
}

// TestHeard is what rejects tell: the next ballot is above the greatest of them.
func TestHeard(t *testing.T) {
	each(func(n, node int) {
		c, twin, other := place(16, 0), sell(16, 1, 4, 4), place(17, 0)
		p := newPair(t, node, n)
		next := func(promised, heard int) {
			t.Helper()
			b := least(n, node, max(promised, heard))
			is(t, p.do(t, timer(16)), 0, api.OK, all(n, node, prepare(node, 0, b, c))...)
		}
		hears := func(c api.Cmd, bal, ab int) {
			t.Helper()
			is(t, p.do(t, receive(reject(0, node, bal, c, ab))), 0, api.OK)
		}
		// Of a command that isn't known yet.
		hears(c, 3, 40)
		p.do(t, receive(prepare(0, node, 2, c)))
		next(2, 40)
		at := least(n, node, 40)
		// Less than what was heard, and less than what was promised.
		hears(c, 3, 39)
		next(at, 40)
		hears(c, at, 41)
		next(at+n, 41)
		// More; and of another command of that name, at any ballot.
		hears(twin, 0, 97)
		next(at+2*n, 97)
		hears(c, 1, 96)
		hears(c, api.MaxBallot, 200)
		hears(twin, 3, 150)
		next(97, 200)
		// Of another name nothing.
		hears(other, 3, 1000)
		next(least(n, node, 200), 200)
		p.do(t, receive(prepare(0, node, 999, other)))
		is(t, p.do(t, timer(17)), 0, api.OK, all(n, node, prepare(node, 0, least(n, node, 1000), other))...)
	})
}

// TestHeardIsForgotten is that what was heard is nothing that is kept on the disk.
func TestHeardIsForgotten(t *testing.T) {
	p := newPair(t, 1, 3)
	p.do(t, submit(place(0, 0)))
	p.do(t, receive(reject(0, 1, 0, place(17, 0), 700)))
	p = onDisk(t, 1, 3, p.d)
	is(t, p.do(t, timer(17)), 0, api.OK, all(3, 1, prepare(1, 0, 3, place(17, 0)))...)
}

// TestNoBallot is a next ballot that is not there, above what was promised, or heard: it halts.
func TestNoBallot(t *testing.T) {
	each(func(n, node int) {
		c := place(16, 0)
		last := 0
		for b := api.MaxBallot - n + 1; b <= api.MaxBallot; b++ {
			if (b-2)%n == node {
				last = b
			}
		}
		tells := map[string]func(p *pair, b int){
			"promised": func(p *pair, b int) { p.do(t, receive(prepare(0, node, b, c))) },
			"heard": func(p *pair, b int) {
				p.do(t, receive(prepare(0, node, 0, c)))
				p.do(t, receive(reject(0, node, 0, c, b)))
			},
		}
		for what, tell := range tells {
			for b := last - 2; b <= api.MaxBallot; b++ {
				p := newPair(t, node, n)
				tell(p, b)
				was, entries := p.d.Bytes(), textOfEntries(p.r.Entries())
				if b < last {
					is(t, p.do(t, timer(16)), 0, api.OK, all(n, node, prepare(node, 0, last, c))...)
					was, entries = p.d.Bytes(), textOfEntries(p.r.Entries())
				}
				clock := p.r.Clock()
				is(t, p.do(t, hurry(16)), 0, api.OK)
				is(t, p.do(t, timer(16)), 0, api.ErrHalt)
				if !isAs(p.d, was, len(was)) || textOfEntries(p.r.Entries()) != entries || p.r.Clock() != clock {
					t.Fatalf("of %d, %d: %s %d", n, node, what, b)
				}
				isHalted(t, p.r)
			}
		}
	})
}

// TestHurry is one that asks, and was told by a classic quorum: it goes on slowly. Of all others nothing is told.
func TestHurry(t *testing.T) {
	p := newPair(t, 1, 5)
	c, d := place(17, 0), place(16, 0)
	p.do(t, submit(place(0, 0)))
	is(t, p.do(t, hurry(17)), 0, api.OK)
	p.do(t, receive(okay(0, 1, c, at(1, 1))))
	is(t, p.do(t, hurry(17)), 0, api.OK)
	// Its own okay, and two.
	p.do(t, receive(okay(3, 1, c, at(1, 1))))
	is(t, p.do(t, hurry(17)), 0, api.OK, all(5, 1, accept(1, 0, 1, c, value(at(1, 1))))...)
	hasEntry(t, p.r, entry.Entry{Cmd: c, Promised: 1, Low: at(1, 1), High: at(1, 1), F: value(at(1, 1)), AB: 1, A: value(at(1, 1))})
	is(t, p.do(t, hurry(17)), 0, api.OK)
	// Its own accepted, and two.
	is(t, p.do(t, receive(accepted(0, 1, 1, c))), 0, api.OK)
	is(t, p.do(t, receive(accepted(3, 1, 1, c))), 0, api.OK, all(5, 1, stable(1, 0, c, value(at(1, 1))))...)
	is(t, p.do(t, hurry(17)), 0, api.OK)
	// One that another one leads.
	p.do(t, receive(propose(0, 1, 0, d, value(at(9, 0), c))))
	is(t, p.do(t, hurry(16)), 0, api.OK)
}
