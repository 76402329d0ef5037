package order_test

import (
	"fmt"
	"math/rand"
	"slices"
	"testing"

	"lictor/api"
	"lictor/entry"
	"lictor/order"
)

// several are entries of which some come, and some wait.
func several() []entry.Entry {
	return rows(done(19, 64, 17, 18), done(17, 32), known(20, 16, 17), done(18, 48, 17), done(33, 80, 20), done(34, 80, 33))
}

// roomy are entries with room behind each list's length, in which what lies would change what is told.
func roomy(l []entry.Entry) []entry.Entry {
	var all []entry.Entry
	for _, e := range l {
		e.F.P, e.A.P, e.V.P = roomySet(e.F.P), roomySet(e.A.P), roomySet(e.V.P)
		all = append(all, e)
	}
	return append(all, done(20, 8), done(16, 1), done(90, 8))[:len(l)]
}

func roomySet(p []api.Cmd) []api.Cmd { return append(slices.Clone(p), asks(90, 91)...)[:len(p)] }

// whole is all that lies in entries' memory, also behind their length, and that of their sets.
func whole(l []entry.Entry) string {
	text := fmt.Sprint(len(l), l[:cap(l)])
	for _, e := range l {
		for _, p := range [][]api.Cmd{e.F.P, e.A.P, e.V.P} {
			text += fmt.Sprint(len(p), p[:cap(p)])
		}
	}
	return text
}

// TestHandedIn is rule 4: what is handed in stays as it was, and what lies behind its length isn't looked at.
func TestHandedIn(t *testing.T) {
	l := roomy(several())
	had := append([]int{17, 5}, 18, 20, 33, 90)[:2]
	before, names := whole(l), fmt.Sprint(had[:cap(had)])
	tells(t, l, nil, []int{17, 18, 19}, []int{33, 34})
	tells(t, l, had, []int{18, 19}, []int{33, 34})
	tells(t, l[:1], had, nil, []int{19})
	tells(t, l[:0], had[:0], nil, nil)
	if got := whole(l); got != before {
		t.Errorf("the entries are %s now", got)
	}
	if got := fmt.Sprint(had[:cap(had)]); got != names {
		t.Errorf("the names are %s now", got)
	}
}

// TestToldIsOnesOwn has what was told written over: neither what was handed in, nor what is told later, changes.
func TestToldIsOnesOwn(t *testing.T) {
	l := several()
	before := whole(l)
	all, waits := order.All(l), order.Waits(l)
	again := order.All(l)
	for i := range all[:cap(all)] {
		all[:cap(all)][i] = api.Cmd{ID: -7}
	}
	for i := range waits[:cap(waits)] {
		waits[:cap(waits)][i] = -7
	}
	if !slices.Equal(again, asks(17, 18, 19)) || whole(l) != before {
		t.Errorf("All told %v, the entries are%s", again, short(l))
	}
	tells(t, l, nil, []int{17, 18, 19}, []int{33, 34})
}

// TestNotKept is rule 4: what is handed in may change behind the call, and what was told stays.
func TestNotKept(t *testing.T) {
	l, had := several(), []int{17}
	all, waits := order.All(l, had...), order.Waits(l, had...)
	for i := range l {
		for k := range l[i].V.P {
			l[i].V.P[k] = ask(99)
		}
		l[i] = done(99, 1)
	}
	had[0] = 99
	if !slices.Equal(all, asks(18, 19)) || !slices.Equal(waits, []int{33, 34}) {
		t.Errorf("what was told is %v %v now", all, waits)
	}
	tells(t, l, nil, []int{99}, nil)
	tells(t, l, had, nil, nil)
}

// TestShared are entries that share one set's memory, and one list of names that is handed in again and again.
func TestShared(t *testing.T) {
	set := asks(17, 18)
	l := rows(done(17, 32), done(18, 48), done(19, 64), done(20, 64))
	for i := range l {
		l[i].V.P = set
	}
	// 17 and 18 are among their own P.
	tells(t, l, nil, nil, []int{17, 18, 19, 20})
	tells(t, l, []int{17, 18}, []int{19, 20}, nil)
	for i := range l {
		l[i].V.P = set[:i/2]
	}
	tells(t, l, []int{17}, []int{18, 19, 20}, nil)
	tells(t, l, nil, []int{17, 18, 19, 20}, nil)
}

// TestAgain is P2: the same is told again, whatever was asked between.
func TestAgain(t *testing.T) {
	r := rand.New(rand.NewSource(2))
	for range 300 {
		l := anyRow(r, 30)
		all, waits := order.All(l, 3, 7), order.Waits(l, 3, 7)
		next, ok := order.Next(l, 3, 7)
		order.All(anyRow(r, 30), 1)
		order.Waits(l)
		for range 4 {
			c, is := order.Next(l, 7, 3, 3)
			if c != next || is != ok || !slices.Equal(order.All(l, 7, 3, 7), all) || !slices.Equal(order.Waits(l, 3, 7), waits) {
				t.Fatalf("of%s: another thing is told", short(l))
			}
		}
	}
}
