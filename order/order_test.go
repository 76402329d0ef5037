package order_test

import (
	"fmt"
	"slices"
	"testing"

	"lictor/api"
	"lictor/entry"
	"lictor/order"
)

// place is a command of a name, of a symbol; ask is one of the first symbol.
func place(id, symbol int) api.Cmd {
	return api.Cmd{ID: id, Symbol: symbol, Side: api.Sell, Price: 5, Qty: 2}
}

func ask(id int) api.Cmd { return place(id, 0) }

// asks are commands of these names.
func asks(names ...int) []api.Cmd {
	var l []api.Cmd
	for _, id := range names {
		l = append(l, ask(id))
	}
	return l
}

// done is an entry that is done with a timestamp, and with those of these names ahead.
func done(id, t int, ahead ...int) entry.Entry {
	return entry.Entry{Cmd: ask(id), Low: t, High: t, Done: true, V: api.Value{T: t, P: asks(ahead...)}}
}

// known is one that isn't done, though it has a fast value and one that was accepted, with a timestamp.
func known(id, t int, ahead ...int) entry.Entry {
	v := api.Value{T: t, P: asks(ahead...)}
	return entry.Entry{Cmd: ask(id), Promised: 1, Low: t, High: t, F: v, AB: 1, A: v}
}

// fresh is one with nothing but its command.
func fresh(id int) entry.Entry { return entry.Entry{Cmd: ask(id)} }

func rows(l ...entry.Entry) []entry.Entry { return l }

func names(l []api.Cmd) []int {
	var ids []int
	for _, c := range l {
		ids = append(ids, c.ID)
	}
	return ids
}

// short is entries as a text: their names, and of what is done its timestamp, and the names ahead.
func short(l []entry.Entry) string {
	text := ""
	for _, e := range l {
		text += fmt.Sprintf(" %d", e.Cmd.ID)
		if e.Done {
			text += fmt.Sprint("=", e.V.T, names(e.V.P))
		}
	}
	return text
}

// tells asks for what is told of entries, by all three calls: all these commands, by their names, and those that wait.
func tells(t *testing.T, l []entry.Entry, had, all, waits []int) {
	t.Helper()
	if got := names(order.All(l, had...)); !slices.Equal(got, all) {
		t.Errorf("All of%s, of which %v are delivered: %v, want %v", short(l), had, got, all)
	}
	if got := order.Waits(l, had...); !slices.Equal(got, waits) {
		t.Errorf("Waits of%s, of which %v are delivered: %v, want %v", short(l), had, got, waits)
	}
	c, ok := order.Next(l, had...)
	if len(all) == 0 && (ok || c != api.Cmd{}) || len(all) > 0 && (!ok || c.ID != all[0]) {
		t.Errorf("Next of%s, of which %v are delivered: %v %v, want the first one of %v", short(l), had, c, ok, all)
	}
}

// TestExample is the seventh one of the whole: of two with each other among their P the lesser timestamp comes first.
func TestExample(t *testing.T) {
	tells(t, rows(done(17, 33, 18), done(18, 50, 17)), nil, []int{17, 18}, nil)
	tells(t, rows(done(18, 50, 17), done(17, 33, 18)), nil, []int{17, 18}, nil)
	tells(t, rows(done(17, 50, 18), done(18, 33, 17)), nil, []int{18, 17}, nil)
	tells(t, rows(done(17, 33, 18), done(18, 50, 17)), []int{17}, []int{18}, nil)
	// The lesser one still stops the greater one's P, where that alone is delivered.
	tells(t, rows(done(17, 33, 18), done(18, 50, 17)), []int{18}, []int{17}, nil)
}

// TestTold has the commands told whole, as they stand in the entries: not as they stand among another one's P.
func TestTold(t *testing.T) {
	first := api.Cmd{ID: 17, Kind: api.Amend, Symbol: 3, Target: 16, Side: api.Buy, Price: 7, Qty: 9}
	later := api.Cmd{ID: 33, Kind: api.Cancel, Symbol: 3, Target: 17}
	other := first
	other.Qty = 8
	l := rows(
		entry.Entry{Cmd: later, Done: true, V: api.Value{T: 48, P: []api.Cmd{other}}},
		entry.Entry{Cmd: first, Done: true, V: api.Value{T: 32}},
	)
	if got := order.All(l); !slices.Equal(got, []api.Cmd{first, later}) {
		t.Errorf("All: %v", got)
	}
	if got, ok := order.Next(l); !ok || got != first {
		t.Errorf("Next: %v %v", got, ok)
	}
	if got, ok := order.Next(l, 17); !ok || got != later {
		t.Errorf("Next behind the first one: %v %v", got, ok)
	}
}

func TestNothing(t *testing.T) {
	tells(t, nil, nil, nil, nil)
	tells(t, rows(), nil, nil, nil)
	tells(t, nil, []int{17, 18, 17}, nil, nil)
	tells(t, rows(fresh(17)), nil, nil, nil)
	tells(t, rows(fresh(17)), []int{17}, nil, nil)
	tells(t, rows(known(17, 32)), nil, nil, nil)
	tells(t, rows(known(17, 32, 18), known(18, 48), fresh(33)), []int{33}, nil, nil)
}

func TestOne(t *testing.T) {
	tells(t, rows(done(17, 32)), nil, []int{17}, nil)
	tells(t, rows(done(17, 32)), []int{17}, nil, nil)
	tells(t, rows(done(17, 32)), []int{17, 17}, nil, nil)
	// Names that no entry has change nothing.
	tells(t, rows(done(17, 32)), []int{18}, []int{17}, nil)
	tells(t, rows(done(17, 32)), []int{0, -17, 18, 18}, []int{17}, nil)
	tells(t, rows(done(17, 32)), []int{18, 17, 16, 17}, nil, nil)
}

// TestMany has the timestamps say the order, not the names, nor how they stand.
func TestMany(t *testing.T) {
	l := rows(done(17, 80), fresh(18), done(19, 33), known(20, 1000), done(33, 34), done(34, 48), done(35, 32))
	tells(t, l, nil, []int{35, 19, 33, 34, 17}, nil)
	tells(t, l, []int{19}, []int{35, 33, 34, 17}, nil)
	tells(t, l, []int{34, 35, 34}, []int{19, 33, 17}, nil)
	tells(t, l, []int{17, 19, 33, 34, 35}, nil, nil)
	tells(t, l, []int{35, 34, 33, 20, 19, 18, 17}, nil, nil)
}

// TestAhead is a command with another one among its P, of which there is no entry, or one of each kind, delivered and not.
func TestAhead(t *testing.T) {
	of := done(17, 48, 33)
	for _, c := range []struct {
		what       string
		other      []entry.Entry
		all, waits []int // while the other one isn't delivered
		then, left []int // once it is
	}{
		{"none", nil, nil, []int{17}, nil, []int{17}},
		{"one with nothing", rows(fresh(33)), nil, []int{17}, nil, []int{17}},
		{"one that isn't done, lesser", rows(known(33, 32)), nil, []int{17}, nil, []int{17}},
		{"one that isn't done, greater", rows(known(33, 64)), nil, []int{17}, nil, []int{17}},
		{"done, greater", rows(done(33, 49)), []int{17, 33}, nil, []int{17}, nil},
		{"done, the same", rows(done(33, 48)), []int{33, 17}, nil, []int{17}, nil},
		{"done, lesser", rows(done(33, 47)), []int{33, 17}, nil, []int{17}, nil},
		{"done, far greater", rows(done(33, 16*65535+8)), []int{17, 33}, nil, []int{17}, nil},
		{"done, far lesser", rows(done(33, 16)), []int{33, 17}, nil, []int{17}, nil},
		{"done, greater, that waits", rows(done(33, 49, 90)), []int{17}, []int{33}, []int{17}, nil},
		{"done, the same, that waits", rows(done(33, 48, 90)), nil, []int{17, 33}, []int{17}, nil},
		{"done, lesser, that waits", rows(done(33, 47, 90)), nil, []int{17, 33}, []int{17}, nil},
	} {
		t.Run(c.what, func(t *testing.T) {
			l := append(rows(of), c.other...)
			tells(t, l, nil, c.all, c.waits)
			tells(t, l, []int{33}, c.then, c.left)
			tells(t, l, []int{33, 5, 33}, c.then, c.left)
			slices.Reverse(l)
			slices.Reverse(c.waits)
			tells(t, l, nil, c.all, c.waits)
			tells(t, l, []int{33}, c.then, c.left)
		})
	}
}

// TestGoneWithoutEntry is a name that is delivered, of which no entry says when: it stops all that have it among their P.
func TestGoneWithoutEntry(t *testing.T) {
	l := rows(done(17, 48, 33), done(18, 64), done(19, 80, 17))
	tells(t, l, []int{33}, []int{18}, []int{17, 19})
	tells(t, append(l, known(33, 32)), []int{33}, []int{18}, []int{17, 19})
	tells(t, append(l, done(33, 32)), []int{33}, []int{17, 18, 19}, nil)
	tells(t, append(l, done(33, 96)), []int{33}, []int{17, 18, 19}, nil)
}

// TestItself is a command that is among its own P: its own timestamp isn't above it.
func TestItself(t *testing.T) {
	tells(t, rows(done(17, 32, 17)), nil, nil, []int{17})
	tells(t, rows(done(17, 32, 17)), []int{17}, nil, nil)
	tells(t, rows(done(17, 32, 17), done(18, 16, 17), done(19, 48, 17), done(20, 64)), nil, []int{18, 20}, []int{17, 19})
	tells(t, rows(done(17, 32, 17), done(19, 48, 17)), []int{17}, []int{19}, nil)
	// Also where it has others that come ahead.
	tells(t, rows(done(17, 32, 16, 17, 18), done(16, 20), done(18, 24)), nil, []int{16, 18}, []int{17})
}

// TestEachOther are commands with each other among their P, also in a ring, and with one timestamp.
func TestEachOther(t *testing.T) {
	tells(t, rows(done(17, 32, 18), done(18, 32, 17)), nil, nil, []int{17, 18})
	tells(t, rows(done(18, 32, 17), done(17, 32, 18)), nil, nil, []int{18, 17})
	tells(t, rows(done(17, 32, 18), done(18, 32, 17)), []int{18}, []int{17}, nil)
	tells(t, rows(done(17, 32, 18), done(18, 32, 17)), []int{17}, []int{18}, nil)
	ring := rows(done(17, 64, 18), done(18, 48, 19), done(19, 32, 17))
	tells(t, ring, nil, []int{19, 18, 17}, nil)
	all := rows(done(17, 64, 18, 19), done(18, 48, 17, 19), done(19, 32, 17, 18))
	tells(t, all, nil, []int{19, 18, 17}, nil)
	tells(t, all, []int{19}, []int{18, 17}, nil)
	tells(t, all, []int{17}, []int{19, 18}, nil)
	all[2].Done = false
	tells(t, all, nil, nil, []int{17, 18})
}

// TestSameTime are those that are ready with the same timestamp: the one that stands first comes first.
func TestSameTime(t *testing.T) {
	tells(t, rows(done(17, 32), done(18, 32)), nil, []int{17, 18}, nil)
	tells(t, rows(done(18, 32), done(17, 32)), nil, []int{18, 17}, nil)
	tells(t, rows(done(19, 32), done(33, 32), done(17, 32), done(18, 16)), nil, []int{18, 19, 33, 17}, nil)
	tells(t, rows(done(19, 32), done(33, 32), done(17, 32), done(18, 16)), []int{19}, []int{18, 33, 17}, nil)
	// One that becomes ready by a later one of the same time comes ahead of those which that one stands ahead of.
	l := rows(done(19, 32, 33), done(20, 32, 17), done(33, 32), done(17, 32), done(18, 32))
	tells(t, l, nil, []int{33, 19, 17, 20, 18}, nil)
	tells(t, l, []int{33}, []int{19, 17, 20, 18}, nil)
	tells(t, l, []int{17}, []int{20, 33, 19, 18}, nil)
}

// TestWaitsStand has those that wait told as they stand, whatever their names and their timestamps.
func TestWaitsStand(t *testing.T) {
	l := rows(done(35, 64, 90), done(17, 80, 35), done(18, 32), fresh(20), done(34, 48, 90), done(19, 40), done(16, 99, 34))
	tells(t, l, nil, []int{18, 19}, []int{35, 17, 34, 16})
	tells(t, l, []int{35}, []int{18, 19, 17}, []int{34, 16})
	tells(t, l, []int{34, 18}, []int{19, 16}, []int{35, 17})
	slices.Reverse(l)
	tells(t, l, nil, []int{18, 19}, []int{16, 34, 17, 35})
}

// TestSymbols has entries of several symbols: the symbols say nothing, neither of who comes ahead, nor of who waits.
func TestSymbols(t *testing.T) {
	l := rows(done(17, 64), done(18, 48, 17), done(19, 32), done(20, 80, 90), done(21, 16, 18))
	for i := range l {
		l[i].Cmd.Symbol = i % 4
	}
	tells(t, l, nil, []int{21, 19, 18, 17}, []int{20})
	tells(t, l, []int{17}, []int{21, 19, 18}, []int{20})
	if got, _ := order.Next(l); got != place(21, 0) {
		t.Errorf("Next: %v", got)
	}
	if got, _ := order.Next(l, 21); got != place(19, 2) {
		t.Errorf("Next: %v", got)
	}
}
