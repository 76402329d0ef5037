package choose_test

import (
	"math/rand"
	"slices"
	"testing"

	"lictor/api"
	"lictor/choose"
)

// refuse is one of a replica, and what it suggests.
func refuse(node, s int, p ...api.Cmd) api.Msg {
	return api.Msg{Sort: api.Refuse, From: node, Cmd: taken(), V: value(16, p...), S: s}
}

// okay is one of a replica, with what it adds.
func okay(node int, p ...api.Cmd) api.Msg {
	return api.Msg{Sort: api.Okay, From: node, Cmd: taken(), V: value(16, p...)}
}

// fresh tells whether that is the value above all.
func fresh(t *testing.T, l []api.Msg, want api.Value) {
	t.Helper()
	if got, err := choose.Fresh(l...); err != api.OK || !sameValue(got, want) {
		t.Errorf("of %s: %s %d, not %s", short(l), short(got), err, short(want))
	}
}

// noFresh tells whether that error is answered, with nothing beside it.
func noFresh(t *testing.T, l []api.Msg, want api.Errno) {
	t.Helper()
	if got, err := choose.Fresh(l...); err != want || got.T != 0 || len(got.P) > 0 {
		t.Errorf("of %s: %s %d, not %d", short(l), short(got), err, want)
	}
}

// TestFresh is P15.1 (H1): the greatest that is suggested, by whom it may be, and all that comes ahead.
func TestFresh(t *testing.T) {
	a, b, c := place(17, 5), cancel(33, 17), place(34, 1)
	for _, x := range []struct {
		l    []api.Msg
		want api.Value
	}{
		{msgs(promise(0, 16)), value(16)},
		{msgs(promise(0, lastStamp, many(mostPreds)...)), value(lastStamp, many(mostPreds)...)},
		{msgs(refuse(0, 16, a)), value(16, a)},
		{msgs(refuse(0, 32, b), refuse(1, 33, a)), value(33, a, b)},
		{msgs(refuse(0, 33, b), refuse(1, 32, a)), value(33, a, b)},
		{msgs(promise(0, 48, b), refuse(1, 33, a), okay(2, c)), value(48, a, b, c)},
		{msgs(okay(2, c, cancel(49, 17)), promise(0, 33, b), refuse(1, 48, a, c)), value(48, a, b, c, cancel(49, 17))},
		{msgs(promise(0, 33, a), promise(0, 33, a), promise(0, 33, a)), value(33, a)},
		{msgs(promise(0, 34, a), promise(0, 33, b), promise(0, 34, c)), value(34, a, b, c)},
		// Others than promises, of other commands, ballots and replicas; what else they have is not asked.
		{msgs(stable(0, value(lastStamp, a)), refuse(0, 16)), value(16, a)},
		{msgs(of(promise(0, 33, a), place(50, 1)), ballot(promise(8, 32, b), 1)), value(33, a, b)},
		{msgs(freed(voted(accepted(promise(0, 33, a), 9, value(lastStamp, b)), value(lastStamp, c)))), value(33, a)},
		{append(others(3), refuse(0, 33, b)), value(33, a, b)},
	} {
		fresh(t, x.l, x.want)
		fresh(t, backwards(x.l), x.want)
	}
}

// TestManyFresh is P15.1 (H1): of more messages than there are replicas, with equal suggestions among them, in any order.
func TestManyFresh(t *testing.T) {
	all := many(mostPreds)
	for seed := range int64(20) {
		r := rand.New(rand.NewSource(seed))
		var l []api.Msg
		most := 0
		for i, c := range all {
			m := promise(i%9, at(1+r.Intn(60000), i%9), c)
			if r.Intn(3) == 0 {
				m = refuse(i%9, at(1+r.Intn(60000), i%9), c)
			}
			l, most = append(l, m, okay(0, c)), max(most, m.S)
		}
		r.Shuffle(len(l), func(i, k int) { l[i], l[k] = l[k], l[i] })
		fresh(t, l, value(most, all...))
		fresh(t, append(l, l...), value(most, all...))
	}
}

// TestNoTimestamp is P15.1 (H1): of none, and of those that suggest nothing, there is none.
func TestNoTimestamp(t *testing.T) {
	noFresh(t, nil, api.ErrArg)
	noFresh(t, msgs(), api.ErrArg)
	v := value(lastStamp, place(17, 5))
	for _, m := range append(others(3), stable(0, v), okay(1)) {
		if m.S > 0 {
			continue
		}
		noFresh(t, msgs(m), api.ErrArg)
		noFresh(t, msgs(m, m, stable(1, v)), api.ErrArg)
		fresh(t, msgs(m, promise(0, 16), m), value(16, m.V.P...))
	}
	// It is told ahead of the union's error.
	noFresh(t, msgs(okay(0, place(17, 5)), okay(1, place(17, 6))), api.ErrArg)
	noFresh(t, msgs(okay(0, many(mostPreds)...), stable(1, value(16, many(mostPreds + 1)[mostPreds]))), api.ErrArg)
}

// TestFreshMayNot is P15.1 (H1): one that may not be, at each place, also beside those whose union has an error.
func TestFreshMayNot(t *testing.T) {
	all := many(mostPreds + 1)
	good := msgs(promise(0, 16), refuse(1, 33, place(17, 5)), okay(2))
	full := msgs(promise(0, 16, all[:mostPreds]...), promise(1, 16, all[mostPreds]))
	twice := msgs(promise(0, 16, place(17, 5)), promise(1, 16, place(17, 6)))
	for _, m := range append(mayNot(3), refuse(0, 0), api.Msg{Sort: api.Prepare, Cmd: taken(), S: 16}) {
		noFresh(t, msgs(m), api.ErrArg)
		for _, l := range [][]api.Msg{good, full, twice} {
			for i := range len(l) + 1 {
				noFresh(t, slices.Insert(slices.Clone(l), i, m), api.ErrArg)
			}
		}
	}
}

// TestFreshUnion is P15.1 (H1): the union's errors, of which that of two commands with one name comes first.
func TestFreshUnion(t *testing.T) {
	all := many(mostPreds + 1)
	fresh(t, msgs(refuse(0, 32, all[1:mostPreds]...), promise(1, 16, all[:mostPreds]...)), value(32, all[:mostPreds]...))
	for _, l := range [][]api.Msg{
		{promise(0, 16, all[:mostPreds]...), promise(1, 32, all[mostPreds])},
		{refuse(0, 16, all[:700]...), okay(1, all[600:]...)},
		{promise(0, 16, all[:1]...), stable(1, value(16, all[1:]...))},
	} {
		noFresh(t, l, api.ErrFull)
		noFresh(t, backwards(l), api.ErrFull)
		noFresh(t, append(l, promise(2, 16, place(all[5].ID, 4))), api.ErrTwice)
		noFresh(t, append(msgs(okay(2, place(all[5].ID, 4))), l...), api.ErrTwice)
	}
	for _, c := range cmds(place(17, 6), cancel(17, 33), api.Cmd{ID: 17, Symbol: 3, Side: api.Sell, Price: 5, Qty: 2}) {
		noFresh(t, msgs(promise(0, 16, place(17, 5)), promise(1, 32, c)), api.ErrTwice)
		noFresh(t, msgs(stable(0, value(16, place(17, 5))), promise(1, 32), okay(0, c)), api.ErrTwice)
	}
}
