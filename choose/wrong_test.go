package choose_test

import (
	"math"
	"slices"
	"testing"

	"lictor/api"
	"lictor/choose"
	"lictor/wire"
)

// mayNot are messages of a replica that may not be, for each of their parts.
func mayNot(node int) []api.Msg {
	p, s := promise(node, 16, place(17, 5)), stable(node, value(16, place(17, 5)))
	var l []api.Msg
	add := func(m api.Msg, change func(m *api.Msg)) {
		change(&m)
		l = append(l, m)
	}
	for _, m := range msgs(p, s) {
		for _, x := range []int{math.MinInt, -1, 9, math.MaxInt} {
			add(m, func(m *api.Msg) { m.From = x })
			add(m, func(m *api.Msg) { m.To = x })
		}
		for _, x := range []int{math.MinInt, -1, mostBallot + 1, math.MaxInt} {
			add(m, func(m *api.Msg) { m.Bal = x })
			add(m, func(m *api.Msg) { m.AB = x })
		}
		for _, x := range []int{math.MinInt, -16, 15, 25, lastStamp + 1, math.MaxInt} {
			add(m, func(m *api.Msg) { m.V.T = x })
			add(m, func(m *api.Msg) { m.S = x })
			add(m, func(m *api.Msg) { m.A.T = x })
			add(m, func(m *api.Msg) { m.F.T = x })
		}
		for _, x := range [][]api.Cmd{{place(25, 5)}, {place(18, 5), place(17, 5)}, {place(17, 5), place(17, 5)}, many(mostPreds + 1)} {
			add(m, func(m *api.Msg) { m.V.P = x })
			add(m, func(m *api.Msg) { m.A = value(16, x...) })
			add(m, func(m *api.Msg) { m.F = value(16, x...) })
		}
		add(m, func(m *api.Msg) { m.A.P = cmds(place(17, 5)) })
		add(m, func(m *api.Msg) { m.F.P = cmds(place(17, 5)) })
		for _, x := range []api.Sort{math.MinInt, -1, 9, math.MaxInt} {
			add(m, func(m *api.Msg) { m.Sort = x })
		}
		for _, c := range cmds(api.Cmd{}, place(15, 5), place(49, -1), cancel(49, 0), api.Cmd{ID: 49, Kind: 3}) {
			add(m, func(m *api.Msg) { m.Cmd = c })
		}
	}
	add(p, func(m *api.Msg) { m.S = 0 })
	add(p, func(m *api.Msg) { m.V.T = 16 })
	add(s, func(m *api.Msg) { m.V.T = 0 })
	add(s, func(m *api.Msg) { m.S = 16 })
	add(s, func(m *api.Msg) { m.AB = 1 })
	add(s, func(m *api.Msg) { m.A.T = 16 })
	add(s, func(m *api.Msg) { m.F.T = 16 })
	add(s, func(m *api.Msg) { m.Flag = true })
	return append(l, api.Msg{})
}

// others are messages of a replica, of that command and ballot, that may be, and are neither promise nor stable.
func others(node int) []api.Msg {
	m := api.Msg{From: node, To: 2, Bal: asked, Cmd: taken()}
	v := value(16, place(17, 5))
	var l []api.Msg
	for _, x := range msgs(
		api.Msg{Sort: api.Propose, V: v}, api.Msg{Sort: api.Propose, V: v, Flag: true}, api.Msg{Sort: api.Okay, V: v}, api.Msg{Sort: api.Okay, V: v, Flag: true},
		api.Msg{Sort: api.Refuse, V: v, S: 32}, api.Msg{Sort: api.Prepare}, api.Msg{Sort: api.Accept, V: v}, api.Msg{Sort: api.Accepted},
		api.Msg{Sort: api.Reject}, api.Msg{Sort: api.Reject, AB: 9},
	) {
		x.From, x.To, x.Bal, x.Cmd = m.From, m.To, m.Bal, m.Cmd
		l = append(l, x)
	}
	return l
}

// clusters asks for any number of replicas that there can be, and for numbers beyond.
func clusters() []int {
	return []int{math.MinInt, -9, -1, 0, 1, 2, 3, 4, 5, 6, 7, 8, 9, 10, 11, 16, 1 << 32, 1<<32 + 5, math.MaxInt}
}

// TestNoCluster is P15.1 (H1): what may not be n, whatever promises there are; the least and the greatest n that may be.
func TestNoCluster(t *testing.T) {
	for _, n := range clusters() {
		if leastNodes <= n && n <= mostNodes {
			leaves(t, n, plain(n), choose.Free, value(at(10+n-1, n-1)))
			continue
		}
		for q := range mostNodes + 1 {
			wrong(t, n, plain(q), api.ErrArg)
			var l []api.Msg
			for i := range q {
				l = append(l, stable(i, value(16)))
			}
			wrong(t, n, l, api.ErrArg)
			for i := range q {
				l[i] = accepted(voted(plain(q)[i], value(16)), 1, value(16))
			}
			wrong(t, n, l, api.ErrArg)
		}
	}
}

// TestTooFew is P15.1 (H1): none, one less than a classic quorum, just one, and all; a stable is one of them.
func TestTooFew(t *testing.T) {
	for n := leastNodes; n <= mostNodes; n++ {
		wrong(t, n, nil, api.ErrArg)
		wrong(t, n, msgs(), api.ErrArg)
		for q := 1; q <= n; q++ {
			var voters, bound, done []api.Msg
			for i, m := range plain(q) {
				voters, bound = append(voters, voted(m, value(16))), append(bound, accepted(m, 1, value(16)))
				done = append(done, stable(i, value(16)))
			}
			if q < classic(n) {
				wrong(t, n, plain(q), api.ErrArg)
				wrong(t, n, voters, api.ErrArg)
				wrong(t, n, bound, api.ErrArg)
				wrong(t, n, done, api.ErrArg)
				wrong(t, n, with(plain(q), 0, done[0]), api.ErrArg)
				continue
			}
			leaves(t, n, plain(q), choose.Free, value(at(10+q-1, q-1)))
			leaves(t, n, voters, choose.Exact, value(16))
			leaves(t, n, bound, choose.Bound, value(16))
			leaves(t, n, done, choose.Done, value(16))
			leaves(t, n, with(plain(q), 0, done[0]), choose.Done, value(16))
		}
	}
}

// TestWhose is P15.1 (H1): those of any replicas of the cluster, but of none twice, and of none beyond it.
func TestWhose(t *testing.T) {
	each(func(n, q int) {
		var l []api.Msg
		for i, m := range plain(q) {
			l = append(l, from(m, n-1-i))
		}
		leaves(t, n, l, choose.Free, value(at(10+q-1, q-1)))
		for i := range q {
			for node := n; node <= 8; node++ {
				wrong(t, n, with(l, i, from(l[i], node)), api.ErrArg)
				wrong(t, n, with(l, i, stable(node, value(16))), api.ErrArg)
			}
			for k := range q {
				if k == i {
					continue
				}
				node := l[k].From
				wrong(t, n, with(l, i, from(l[i], node)), api.ErrArg)
				wrong(t, n, with(l, i, l[k]), api.ErrArg)
				wrong(t, n, with(l, i, stable(node, value(16))), api.ErrArg)
				wrong(t, n, with(with(l, i, stable(node, value(16))), k, stable(node, value(16))), api.ErrArg)
			}
			wrong(t, n, append(slices.Clone(l), l[i]), api.ErrArg)
		}
		// To whom they are is asked by nobody.
		for i := range q {
			l[i].To = 8 - i
		}
		leaves(t, n, l, choose.Free, value(at(10+q-1, q-1)))
	})
}

// TestWhatIsAsked is P15.1 (H1): those of one command alone, in each of its parts, be it a promise or a stable that is of
// another one.
func TestWhatIsAsked(t *testing.T) {
	each(func(n, q int) {
		for _, c := range cmds(place(50, 5), place(49, 6), place(33, 5), cancel(49, 17), api.Cmd{ID: 49, Price: 5, Qty: 2}, api.Cmd{ID: 49, Side: api.Sell, Price: 5, Qty: 1},
			api.Cmd{ID: 49, Symbol: 1, Side: api.Sell, Price: 5, Qty: 2}) {
			var l []api.Msg
			for _, m := range plain(q) {
				l = append(l, of(m, c))
			}
			leaves(t, n, l, choose.Free, value(at(10+q-1, q-1)))
			for i := range q {
				wrong(t, n, with(plain(q), i, l[i]), api.ErrArg)
				wrong(t, n, with(plain(q), i, of(stable(i, value(16)), c)), api.ErrArg)
				leaves(t, n, with(l, i, of(stable(i, value(16)), c)), choose.Done, value(16))
			}
		}
	})
}

// TestBallots is P15.1 (H1): promises of any ballot, but of one; a stable among them has any, in each place.
func TestBallots(t *testing.T) {
	bals := []int{0, 1, 2, asked, asked + 1, mostBallot}
	each(func(n, q int) {
		for _, b := range bals {
			var l []api.Msg
			for _, m := range plain(q) {
				l = append(l, ballot(m, b))
			}
			leaves(t, n, l, choose.Free, value(at(10+q-1, q-1)))
			for i := range q {
				for _, other := range bals {
					leaves(t, n, with(l, i, ballot(stable(i, value(16)), other)), choose.Done, value(16))
					if other == b {
						continue
					}
					wrong(t, n, with(l, i, ballot(l[i], other)), api.ErrArg)
					if k := (i + 1) % q; q > 2 {
						wrong(t, n, with(with(l, i, ballot(l[i], other)), k, ballot(stable(k, value(16)), b)), api.ErrArg)
						wrong(t, n, with(with(l, i, ballot(l[i], other)), k, ballot(stable(k, value(16)), other)), api.ErrArg)
					}
				}
			}
		}
	})
}

// TestOtherSorts is P15.1 (H1): one of another sort, in each place, also beside enough promises, and a stable.
func TestOtherSorts(t *testing.T) {
	each(func(n, q int) {
		for i := range q {
			for _, m := range others(i) {
				if !wire.Right(m) {
					t.Fatalf("%s may not be", short(m))
				}
				l := with(plain(q), i, m)
				wrong(t, n, l, api.ErrArg)
				k := (i + 1) % q
				wrong(t, n, with(l, k, stable(k, value(16))), api.ErrArg)
			}
		}
	})
}

// TestMayNot is P15.1 (H1): a message that may not be, in each place, also beside enough promises, and a stable.
func TestMayNot(t *testing.T) {
	for _, n := range []int{3, 4, 9} {
		for i := range n {
			for _, m := range mayNot(i) {
				if wire.Right(m) {
					t.Fatalf("%s may be", short(m))
				}
				l := with(plain(n), i, m)
				wrong(t, n, l, api.ErrArg)
				k := (i + 1) % n
				wrong(t, n, with(l, k, stable(k, value(16))), api.ErrArg)
			}
		}
	}
}

// TestArgFirst is P15.1 (H1): that they are no promises is told ahead of the union's error.
func TestArgFirst(t *testing.T) {
	all := many(mostPreds + 1)
	each(func(n, q int) {
		for _, more := range cmds(all[mostPreds], place(all[0].ID, 4)) {
			l := plain(q)
			l[0], l[q-1] = promise(0, 16, all[:mostPreds]...), promise(q-1, 16, more)
			for i := range q {
				for _, m := range msgs(ballot(l[i], 9), of(l[i], place(50, 5)), from(l[i], (i+1)%q), from(l[i], 9), api.Msg{Sort: api.Accepted, From: i, Bal: asked, Cmd: taken()}) {
					wrong(t, n, with(l, i, m), api.ErrArg)
				}
			}
			wrong(t, 2, l, api.ErrArg)
			wrong(t, 10, l, api.ErrArg)
		}
	})
	wrong(t, 5, msgs(promise(0, 16, all[:mostPreds]...), promise(1, 16, all[mostPreds])), api.ErrArg)
}
