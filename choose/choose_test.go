package choose_test

import (
	"fmt"
	"slices"
	"testing"

	"lictor/api"
	"lictor/choose"
	"lictor/wire"
)

// What the document says, by its numbers.
const (
	leastNodes = 3
	mostNodes  = 9
	lastStamp  = 16*65535 + 8
	mostBallot = 1 << 20
	mostPreds  = 1024
)

// asked is the ballot of those that promise, in most tests.
const asked = 7

// classic and fast are how many are such a quorum of n.
func classic(n int) int { return n/2 + 1 }

func fast(n int) int { return []int{3, 3, 4, 5, 6, 6, 7}[n-leastNodes] }

// needed is how many of q must have what a fast quorum of n has.
func needed(n, q int) int { return fast(n) - (n - q) }

// at is the timestamp of a count, of a replica.
func at(count, node int) int { return 16*count + node }

// place and cancel are commands of a name, as short as can be.
func place(id, price int) api.Cmd { return api.Cmd{ID: id, Side: api.Sell, Price: price, Qty: 2} }

func cancel(id, target int) api.Cmd { return api.Cmd{ID: id, Kind: api.Cancel, Target: target} }

// taken is the command that is taken over, in most tests.
func taken() api.Cmd { return place(49, 5) }

// many are commands of the first n names.
func many(n int) []api.Cmd {
	var l []api.Cmd
	for id := 16; len(l) < n; id++ {
		if id%16 <= 8 {
			l = append(l, place(id, 5))
		}
	}
	return l
}

func value(t int, p ...api.Cmd) api.Value { return api.Value{T: t, P: p} }

// promise is a replica's, with what it suggests, and with nothing else; those below have more, or other things.
func promise(from, s int, p ...api.Cmd) api.Msg {
	return api.Msg{Sort: api.Promise, From: from, To: 2, Bal: asked, Cmd: taken(), V: value(0, p...), S: s}
}

func stable(from int, v api.Value) api.Msg {
	return api.Msg{Sort: api.Stable, From: from, To: 2, Cmd: taken(), V: v}
}

func voted(m api.Msg, f api.Value) api.Msg {
	m.F = f
	return m
}

func accepted(m api.Msg, ab int, a api.Value) api.Msg {
	m.AB, m.A = ab, a
	return m
}

func freed(m api.Msg) api.Msg {
	m.Flag = true
	return m
}

func ballot(m api.Msg, b int) api.Msg {
	m.Bal = b
	return m
}

func of(m api.Msg, c api.Cmd) api.Msg {
	m.Cmd = c
	return m
}

func from(m api.Msg, node int) api.Msg {
	m.From = node
	return m
}

func msgs(l ...api.Msg) []api.Msg { return l }

func cmds(l ...api.Cmd) []api.Cmd { return l }

// plain are promises of the replicas from 0 on, each of which suggests a timestamp of its own, the last one the greatest.
func plain(q int) []api.Msg {
	var l []api.Msg
	for node := range q {
		l = append(l, promise(node, at(10+node, node)))
	}
	return l
}

// with is a list with another message at a place.
func with(l []api.Msg, i int, m api.Msg) []api.Msg {
	l = slices.Clone(l)
	l[i] = m
	return l
}

// backwards is a list from its end on.
func backwards(l []api.Msg) []api.Msg {
	l = slices.Clone(l)
	slices.Reverse(l)
	return l
}

// short is how something is printed, but no more than its beginning, as a set may be long.
func short(x any) string {
	s := fmt.Sprintf("%+v", x)
	return s[:min(len(s), 400)]
}

func sameValue(a, b api.Value) bool { return a.T == b.T && slices.Equal(a.P, b.P) }

// leaves tells whether that is what promises leave.
func leaves(t *testing.T, n int, l []api.Msg, k choose.Kind, v api.Value) {
	t.Helper()
	got, err := choose.Choose(n, l...)
	if err != api.OK || got.Kind != k || !sameValue(got.V, v) {
		t.Errorf("of %d, %s: %s %d, not %d %s", n, short(l), short(got), err, k, short(v))
	}
}

// wrong tells whether that error is answered, with nothing beside it.
func wrong(t *testing.T, n int, l []api.Msg, want api.Errno) {
	t.Helper()
	got, err := choose.Choose(n, l...)
	if err != want || got.Kind != 0 || got.V.T != 0 || len(got.V.P) > 0 {
		t.Errorf("of %d, %s: %s %d, not %d", n, short(l), short(got), err, want)
	}
}

// each asks for any cluster, and for any number of promises that is enough.
func each(f func(n, q int)) {
	for n := leastNodes; n <= mostNodes; n++ {
		for q := classic(n); q <= n; q++ {
			f(n, q)
		}
	}
}

// TestKinds is P15.1: the four kinds.
func TestKinds(t *testing.T) {
	if choose.Done != 0 || choose.Bound != 1 || choose.Exact != 2 || choose.Free != 3 {
		t.Errorf("%d %d %d %d", choose.Done, choose.Bound, choose.Exact, choose.Free)
	}
}

// TestDocument is the fifth of the document's nine examples, and its neighbours.
func TestDocument(t *testing.T) {
	f := value(at(4, 1), place(17, 5))
	l := plain(3)
	l[0], l[2] = voted(l[0], f), voted(l[2], f)
	leaves(t, 5, l, choose.Exact, f)
	leaves(t, 5, with(l, 1, freed(l[1])), choose.Free, value(at(12, 2)))
	leaves(t, 5, with(l, 2, promise(2, at(12, 2))), choose.Free, value(at(12, 2)))
	leaves(t, 5, with(l, 1, accepted(l[1], 1, value(at(5, 1)))), choose.Bound, value(at(5, 1)))
	leaves(t, 5, with(l, 1, stable(1, value(at(6, 1)))), choose.Done, value(at(6, 1)))
}

// TestDone is P15.1 (H1): one that is stable, at each place, whatever the others have; with its value, and any ballot.
func TestDone(t *testing.T) {
	v, f := value(at(3, 1), place(17, 5), cancel(33, 17)), value(at(4, 4), place(18, 1))
	each(func(n, q int) {
		var l []api.Msg
		for _, m := range plain(q) {
			l = append(l, voted(m, f))
		}
		for i := range q {
			for _, b := range []int{0, 1, asked, asked + 1, mostBallot} {
				m := ballot(stable(i, v), b)
				leaves(t, n, with(plain(q), i, m), choose.Done, v)
				leaves(t, n, with(l, i, m), choose.Done, v)
				k := (i + 1) % q
				leaves(t, n, with(with(l, i, m), k, freed(l[k])), choose.Done, v)
				leaves(t, n, with(with(l, i, m), k, accepted(l[k], mostBallot, f)), choose.Done, v)
			}
		}
	})
	leaves(t, 3, msgs(promise(2, lastStamp), stable(0, value(16))), choose.Done, value(16))
	leaves(t, 3, msgs(stable(1, value(lastStamp, many(mostPreds)...)), promise(2, 16)), choose.Done, value(lastStamp, many(mostPreds)...))
}

// TestFirstDone is P15.1 (H1): of several that are stable the first one, be its timestamp greater or less.
func TestFirstDone(t *testing.T) {
	each(func(n, q int) {
		for i := range q {
			for k := range i {
				for _, x := range [][2]int{{20, 30}, {30, 20}} {
					l := plain(q)
					l[k], l[i] = ballot(stable(k, value(at(x[0], 0))), 3), ballot(stable(i, value(at(x[1], 0))), 4)
					leaves(t, n, l, choose.Done, value(at(x[0], 0)))
					leaves(t, n, backwards(l), choose.Done, value(at(x[1], 0)))
				}
			}
		}
		var l []api.Msg
		for i := range q {
			l = append(l, ballot(stable(i, value(at(5, i), place(16+i, 1))), i))
		}
		leaves(t, n, l, choose.Done, l[0].V)
		leaves(t, n, backwards(l), choose.Done, l[q-1].V)
	})
}

// TestBound is P15.1 (H1): one that accepted something, at each place, from the least ballot above 0 on, also when a fast
// value would be left, or one is freed; at ballot 0 nothing is accepted.
func TestBound(t *testing.T) {
	a, f := value(at(3, 1), place(17, 5), cancel(33, 17)), value(at(4, 4), place(18, 1))
	each(func(n, q int) {
		free := value(at(10+q-1, q-1))
		var l []api.Msg
		for _, m := range plain(q) {
			l = append(l, voted(m, f))
		}
		for i := range q {
			for _, ab := range []int{1, 2, asked - 1, asked, asked + 1, mostBallot} {
				m := accepted(promise(i, at(40, 3)), ab, a)
				leaves(t, n, with(plain(q), i, m), choose.Bound, a)
				leaves(t, n, with(l, i, m), choose.Bound, a)
				leaves(t, n, with(l, i, freed(m)), choose.Bound, a)
				k := (i + 1) % q
				leaves(t, n, with(with(l, i, m), k, freed(l[k])), choose.Bound, a)
			}
			m := accepted(plain(q)[i], 0, a)
			leaves(t, n, with(plain(q), i, m), choose.Free, free)
			leaves(t, n, with(l, i, voted(m, f)), choose.Exact, f)
		}
	})
}

// TestBoundToNothing is P15.1 (H1): a promise may have a ballot above 0, and nothing that was accepted: they leave that.
func TestBoundToNothing(t *testing.T) {
	l := plain(3)
	leaves(t, 3, with(l, 1, accepted(l[1], 2, value(0))), choose.Bound, value(0))
	leaves(t, 3, with(with(l, 0, accepted(l[0], 1, value(at(3, 3)))), 1, accepted(l[1], 2, value(0))), choose.Bound, value(0))
	leaves(t, 3, with(with(l, 0, accepted(l[0], 2, value(at(3, 3)))), 1, accepted(l[1], 1, value(0))), choose.Bound, value(at(3, 3)))
}

// TestGreatestBound is P15.1 (H1): the greatest ballot, at each place, whatever its timestamp; of the same one twice the
// first one, with other values.
func TestGreatestBound(t *testing.T) {
	each(func(n, q int) {
		for i := range q {
			var l, down []api.Msg
			for node := range q {
				far := (node - i + q) % q // 0 at the place where the greatest is
				m := accepted(promise(node, at(20, node)), 10-far, value(at(30+far, node), place(16+node, 1)))
				l, down = append(l, m), append(down, accepted(m, 10-far, value(at(30-far, node), place(16+node, 1))))
			}
			for _, x := range [][]api.Msg{l, down} {
				leaves(t, n, x, choose.Bound, x[i].A)
				leaves(t, n, backwards(x), choose.Bound, x[i].A)
			}
			for k := range i {
				twice := with(l, k, accepted(l[k], 10, l[k].A))
				leaves(t, n, twice, choose.Bound, l[k].A)
				leaves(t, n, backwards(twice), choose.Bound, l[i].A)
			}
		}
	})
	for _, ab := range []int{1, mostBallot} {
		l := msgs(accepted(promise(2, 16), ab, value(17)), accepted(promise(0, 16), ab, value(17, place(16, 1))), accepted(promise(1, 16), ab, value(16)))
		leaves(t, 3, l, choose.Bound, value(17))
		leaves(t, 3, backwards(l), choose.Bound, value(16))
	}
}

// TestExact is P15.1 (H1): of each cluster, and of as many promises as can be: as many of one fast value as are needed,
// more, and one less, in front, at the end, and among the others.
func TestExact(t *testing.T) {
	f := value(at(3, 1), place(17, 5), cancel(33, 17))
	each(func(n, q int) {
		free := value(at(10+q-1, q-1))
		for have := range q + 1 {
			for first := range q {
				l := plain(q)
				for i := range have {
					k := (first + i) % q
					l[k] = voted(l[k], f)
				}
				if have >= needed(n, q) {
					leaves(t, n, l, choose.Exact, f)
				} else {
					leaves(t, n, l, choose.Free, free)
				}
			}
		}
	})
	for _, v := range []api.Value{value(16), value(lastStamp), value(16, many(mostPreds)...)} {
		leaves(t, 3, msgs(voted(promise(2, 16), v), voted(promise(0, 32), v)), choose.Exact, v)
	}
}

// TestNeeded is P15.1 (H1): how many are needed, written out, of those that are promised by just a classic quorum, and by all.
func TestNeeded(t *testing.T) {
	f := value(at(3, 1))
	for _, x := range [][3]int{
		{3, 2, 2}, {4, 3, 2}, {5, 3, 2}, {6, 4, 3}, {7, 4, 3}, {8, 5, 3}, {9, 5, 3},
		{3, 3, 3}, {4, 4, 3}, {5, 5, 4}, {6, 6, 5}, {7, 7, 6}, {8, 8, 6}, {9, 9, 7}, {5, 4, 3}, {9, 7, 5},
	} {
		l := plain(x[1])
		for i := range x[2] {
			l[i] = voted(l[i], f)
		}
		leaves(t, x[0], l, choose.Exact, f)
		leaves(t, x[0], with(l, 0, plain(1)[0]), choose.Free, value(at(10+x[1]-1, x[1]-1)))
	}
}

// TestFreed is P15.1 (H1): one that is freed, at each place, with a fast value or without, leaves no fast one.
func TestFreed(t *testing.T) {
	f := value(at(3, 1), place(17, 5))
	each(func(n, q int) {
		var l []api.Msg
		for _, m := range plain(q) {
			l = append(l, voted(m, f))
		}
		leaves(t, n, l, choose.Exact, f)
		for i := range q {
			leaves(t, n, with(l, i, freed(l[i])), choose.Free, value(at(10+q-1, q-1)))
			leaves(t, n, with(l, i, freed(voted(l[i], value(0)))), choose.Free, value(at(10+q-1, q-1)))
		}
	})
}

// TestOtherFast is P15.1 (H1): fast values are the same, if timestamp and set are; those without a timestamp are none's,
// however many have none.
func TestOtherFast(t *testing.T) {
	f := value(at(3, 1), place(17, 5), cancel(33, 17))
	l := plain(3)
	l[0] = voted(l[0], f)
	for _, g := range []api.Value{
		value(0), value(at(3, 1)), value(at(3, 2), f.P...), value(at(4, 1), f.P...), value(at(3, 1), f.P[0]), value(at(3, 1), f.P[1]),
		value(at(3, 1), place(17, 6), cancel(33, 17)), value(at(3, 1), place(17, 5), cancel(33, 18)), value(at(3, 1), place(17, 5), cancel(33, 17), place(34, 1)),
	} {
		leaves(t, 5, with(l, 1, voted(l[1], g)), choose.Free, value(at(12, 2)))
		leaves(t, 5, with(with(l, 0, voted(l[0], g)), 2, voted(l[2], f)), choose.Free, value(at(12, 2)))
		leaves(t, 5, with(with(l, 1, voted(l[1], g)), 2, voted(l[2], f)), choose.Exact, f)
	}
	leaves(t, 5, with(l, 1, voted(l[1], value(at(3, 1), place(17, 5), cancel(33, 17)))), choose.Exact, f)
	empty := api.Value{T: at(3, 1), P: []api.Cmd{}}
	leaves(t, 5, with(with(l, 0, voted(l[0], empty)), 1, voted(l[1], value(at(3, 1)))), choose.Exact, empty)
	none := plain(9)
	for i := range none {
		none[i].F.P = []api.Cmd{}
	}
	leaves(t, 9, none, choose.Free, value(at(18, 8)))
}

// TestTwoFast is P15.1 (H1): of two fast values at most one comes as often as is needed, as two fast quorums meet in each
// classic one: it is left, be it the first one or the last one, between, ahead of or behind the other one.
func TestTwoFast(t *testing.T) {
	f, g := value(at(3, 1), place(17, 5)), value(at(3, 1), place(17, 6))
	each(func(n, q int) {
		if 2*needed(n, q) <= q {
			t.Errorf("of %d, two of %d come often enough", n, q)
		}
		for of := range 1 << q {
			l, have := plain(q), 0
			for i := range q {
				if of>>i&1 == 1 {
					l[i], have = voted(l[i], f), have+1
				} else {
					l[i] = voted(l[i], g)
				}
			}
			switch need := needed(n, q); {
			case have >= need:
				leaves(t, n, l, choose.Exact, f)
			case q-have >= need:
				leaves(t, n, l, choose.Exact, g)
			default:
				leaves(t, n, l, choose.Free, value(at(10+q-1, q-1)))
			}
		}
	})
}

// TestFree is P15.1 (H1): the greatest timestamp that is suggested, at each place, and all that comes ahead.
func TestFree(t *testing.T) {
	each(func(n, q int) {
		leaves(t, n, plain(q), choose.Free, value(at(10+q-1, q-1)))
		leaves(t, n, backwards(plain(q)), choose.Free, value(at(10+q-1, q-1)))
		for i := range q {
			l := with(plain(q), i, promise(i, at(30, i), place(17, 5)))
			leaves(t, n, l, choose.Free, value(at(30, i), place(17, 5)))
			k := (i + 1) % q
			l[k] = promise(k, 16, place(16, 4), place(17, 5), cancel(33, 17))
			leaves(t, n, l, choose.Free, value(at(30, i), place(16, 4), place(17, 5), cancel(33, 17)))
			l[k] = promise(k, at(30, i), place(18, 5))
			leaves(t, n, l, choose.Free, value(at(30, i), place(17, 5), place(18, 5)))
		}
	})
	leaves(t, 3, msgs(promise(0, 16), promise(1, 16)), choose.Free, value(16))
	leaves(t, 3, msgs(promise(0, lastStamp), promise(1, lastStamp-1)), choose.Free, value(lastStamp))
	l := msgs(promise(0, 32, place(18, 5)), promise(1, 33, place(16, 5)), promise(2, 32, place(17, 5)))
	leaves(t, 4, l, choose.Free, value(33, place(16, 5), place(17, 5), place(18, 5)))
	// What was voted for, too seldom, or accepted at no ballot, isn't suggested, nor comes ahead.
	l[0] = accepted(voted(l[0], value(lastStamp, place(64, 5))), 0, value(lastStamp, place(65, 5)))
	leaves(t, 4, l, choose.Free, value(33, place(16, 5), place(17, 5), place(18, 5)))
}

// TestFullUnion is P15.1 (H1): of what is free, and of nothing else, the union's error; 1024 commands are not too many.
func TestFullUnion(t *testing.T) {
	all, f := many(mostPreds+1), value(at(3, 1))
	each(func(n, q int) {
		for i := range q {
			k := (i + 1) % q
			l := with(plain(q), i, promise(i, at(30, i), all[:mostPreds]...))
			leaves(t, n, l, choose.Free, value(at(30, i), all[:mostPreds]...))
			wrong(t, n, with(l, k, promise(k, 16, all[mostPreds:]...)), api.ErrFull)
			wrong(t, n, with(l, k, promise(k, 16, place(all[500].ID, 4))), api.ErrTwice)
			wrong(t, n, with(l, k, promise(k, 16, place(all[500].ID, 4), all[mostPreds])), api.ErrTwice)
		}
		for _, x := range []struct {
			more api.Cmd
			want api.Errno
		}{{all[mostPreds], api.ErrFull}, {place(all[500].ID, 4), api.ErrTwice}} {
			l := with(plain(q), 0, promise(0, 16, all[:mostPreds]...))
			l[1] = promise(1, 16, x.more)
			leaves(t, n, with(l, 1, accepted(l[1], 1, f)), choose.Bound, f)
			if q > classic(n) {
				leaves(t, n, with(l, 2, stable(2, f)), choose.Done, f)
			}
			for i := range l {
				l[i] = voted(l[i], f)
			}
			leaves(t, n, l, choose.Exact, f)
			wrong(t, n, with(l, 1, freed(l[1])), x.want)
		}
	})
}

// TestRight is a test of the tests: the messages above may be.
func TestRight(t *testing.T) {
	l := append(plain(9), stable(8, value(lastStamp, many(mostPreds)...)), freed(voted(promise(0, 16, many(mostPreds)...), value(16, place(16, 1)))), accepted(promise(0, 16), mostBallot, value(0)), accepted(promise(0, 16), 0, value(16)))
	for _, m := range l {
		if !wire.Right(m) {
			t.Errorf("%s may not be", short(m))
		}
	}
}
