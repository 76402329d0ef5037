package voter_test

import (
	"math"
	"slices"
	"testing"

	"lictor/api"
	"lictor/entry"
	"lictor/index"
	"lictor/voter"
)

// TestHandedIn is rule 4: neither a message's set, nor what lies behind its length, is written into, nor is that read.
func TestHandedIn(t *testing.T) {
	c, h := place(49, 0), place(256, 0)
	behind := cmds(place(17, 5), place(33, 1), api.Cmd{}, place(64, 0), place(65, 0))
	for n := range 4 {
		p := append(cmds(place(16, 0), place(18, 0), place(19, 2))[:n:n], behind...)
		want := slices.Clone(p)
		w := value(at(20, 2), p[:n]...)
		for _, m := range append(withP(c, w), propose(1, 0, c, w), exact(propose(1, 0, c, w)), prepare(1, 2, c)) {
			v := made(t, 0, holder(h, at(90, 0)), reserved(bare(place(17, 0)), at(2, 0), at(3, 0)), done(bare(place(20, 0)), value(at(4, 0))))
			v.Handle(m)
			v.Handle(m)
			v.Handle(stable(1, h, value(at(90, 0), c)))
			v.Handle(stable(1, place(17, 0), value(at(3, 0), p[:n]...)))
			if !slices.Equal(p, want) {
				t.Errorf("%s: wrote %v", short(m), p)
			}
			for _, c := range p[n:] {
				if e, ok := v.Get(c.ID); ok && c.ID != 17 {
					t.Errorf("%s: has %s", short(m), short(e))
				}
			}
		}
	}
}

// TestKept is rule 4: what was handed in, and what is told of it, is a copy: who writes into the message's parts, or into
// the list that was told, but into no set, changes nothing.
func TestKept(t *testing.T) {
	c, p, h := place(49, 0), place(17, 0), place(256, 0)
	l := msgs(propose(1, 0, c, value(at(20, 2), p)), propose(2, 0, c, value(at(30, 2), p)), exact(propose(3, 0, c, value(at(40, 2)))))
	v := made(t, 0, holder(h, at(90, 0)))
	for i := range l {
		m := l[i]
		v.Handle(m)
		m.From, m.V.T, m.V.P, m.Flag = 7, at(3, 3), nil, !m.Flag
	}
	waits(t, v, l...)
	// What Waiting told is one's own, and no later one tells what was written there.
	first, second := v.Waiting(), v.Waiting()
	clear(first[:cap(first)])
	_ = append(first[:0], propose(5, 0, p, value(at(3, 0))))
	if !same(second, l) {
		t.Errorf("wait %s", short(second))
	}
	waits(t, v, l...)
	// What was told stays as it is, while those that wait change.
	again := exact(propose(1, 0, c, value(at(20, 2), p)))
	tells(t, v, again)
	if !same(second, l) {
		t.Errorf("waited %s", short(second))
	}
	l = msgs(l[1], l[2], again)
	waits(t, v, l...)
	told := v.Handle(stable(4, h, value(at(90, 0), c)))
	if want := msgs(quick(l[0]), okay(l[1]), okay(l[2])); !same(told, want) {
		t.Fatalf("told %s, not %s", short(told), short(want))
	}
	clear(told[:cap(told)])
	if !same(second, msgs(propose(1, 0, c, value(at(20, 2), p)), l[0], l[1])) {
		t.Errorf("waited %s", short(second))
	}
	waits(t, v)
	m := propose(2, 0, c, value(at(30, 2), p))
	one, two := v.Handle(m), v.Handle(m)
	clear(one)
	if !same(two, msgs(quick(m))) {
		t.Errorf("told %s", short(two))
	}
	tells(t, v, m, quick(m))
}

// TestTold is rule 4: the commands that are told, as they come ahead, are one's own, as they are no set that stood
// anywhere.
func TestTold(t *testing.T) {
	c := place(49, 0)
	l := list(reserved(bare(place(17, 0)), at(2, 0), at(3, 0)), reserved(bare(place(18, 0)), at(2, 0), at(3, 0)), done(bare(place(33, 0)), value(at(90, 0))))
	for _, m := range msgs(propose(1, 0, c, value(at(20, 0))), propose(1, 0, c, value(at(95, 0))), propose(1, 0, c, value(at(95, 0), place(18, 0))), prepare(1, 0, c)) {
		v, w := made(t, 0, l...), made(t, 0, l...)
		one, same := v.Handle(m), w.Handle(m)
		if len(one) != 1 || len(one[0].V.P) < 2 {
			t.Fatalf("told %s", short(one))
		}
		clear(one[0].V.P[:cap(one[0].V.P)])
		a, b := v.Handle(m), w.Handle(m)
		if !slices.Equal(a[0].V.P, b[0].V.P) || !slices.Equal(same[0].V.P, b[0].V.P) {
			t.Errorf("told %s, not %s", short(a), short(b))
		}
		if !slices.EqualFunc(v.All(), w.All(), entry.Same) {
			t.Errorf("has %s, not %s", short(v.All()), short(w.All()))
		}
	}
}

// TestNil is rule 8, and P1: a nil voter tells nothing, and that it is over, also the one that New told beside an error; one
// that New didn't make the same; one of an index that New didn't make tells nothing.
func TestNil(t *testing.T) {
	var none *voter.Voter
	wrong, _ := voter.New(nil)
	c := place(17, 0)
	all := slices.Concat(wrongMsgs(), withP(c, value(at(3, 0))), others(c, value(at(3, 0))), msgs(api.Msg{}, prepare(1, 2, c), propose(1, 0, c, value(at(3, 0)))))
	for _, v := range []*voter.Voter{none, wrong, {}} {
		for _, m := range all {
			if got := v.Handle(m); len(got) != 0 {
				t.Errorf("told %s", short(got))
			}
			if got := v.Waiting(); len(got) != 0 || !v.Over() {
				t.Errorf("wait %s, over: %t", short(got), v.Over())
			}
		}
	}
	var x *index.Index
	if v, err := voter.New(x); v != nil || err != api.ErrArg {
		t.Errorf("New: %v %d", v, err)
	}
	v, err := voter.New(&index.Index{})
	if v == nil || err != api.OK {
		t.Fatalf("New: %v %d", v, err)
	}
	for _, m := range all {
		tells(t, v, m)
		waits(t, v)
	}
}

// TestAnyNumbers is P1: Handle ends, at the numbers at which the machine's own end.
func TestAnyNumbers(t *testing.T) {
	first := rich(place(17, 0))
	v := made(t, 8, first)
	ends := []int{math.MinInt, math.MinInt + 1, math.MinInt32, -1, math.MaxInt32, math.MaxUint32, math.MaxInt - 1, math.MaxInt}
	for _, a := range ends {
		for _, b := range ends {
			c := api.Cmd{ID: a, Kind: api.Kind(b), Symbol: b, Target: a, Side: api.Side(b), Price: a, Qty: b}
			for s := range api.Sort(9) {
				tells(t, v, api.Msg{Sort: s, From: a, To: b, Bal: a, Cmd: c, V: value(b, c, c), Flag: true, S: a, AB: b, A: value(a, c), F: value(b, c)})
				tells(t, v, api.Msg{Sort: s, From: 1, To: 2, Bal: 3, Cmd: place(17, 0), V: value(a), S: b})
				tells(t, v, api.Msg{Sort: s, From: 1, To: 2, Bal: 3, Cmd: place(17, 0), V: value(at(5, 0), c)})
				tells(t, v, api.Msg{Sort: s, From: 1, To: 2, Bal: a, Cmd: place(17, 0), V: value(at(5, 0))})
				tells(t, v, api.Msg{Sort: s, From: a, To: b, Bal: 9, Cmd: place(17, 0), V: value(at(5, 0))})
			}
			tells(t, v, api.Msg{Sort: api.Sort(a), From: 1, To: 2, Bal: 9, Cmd: place(17, 0), V: value(at(5, 0))})
		}
	}
	has(t, v, 9, nil, first)
	waits(t, v)
}
