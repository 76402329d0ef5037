package order_test

import (
	"slices"
	"testing"

	"lictor/api"
	"lictor/order"
)

// TestTwice are names that stand twice: the first entry alone counts, whatever the later ones say.
func TestTwice(t *testing.T) {
	// Done, and not done.
	tells(t, rows(done(17, 32), fresh(17)), nil, []int{17}, nil)
	tells(t, rows(done(17, 32), known(17, 16)), nil, []int{17}, nil)
	tells(t, rows(fresh(17), done(17, 32)), nil, nil, nil)
	tells(t, rows(known(17, 16), done(17, 32), done(18, 48)), nil, []int{18}, nil)
	// With another timestamp.
	tells(t, rows(done(17, 32), done(17, 64), done(18, 48)), nil, []int{17, 18}, nil)
	tells(t, rows(done(17, 64), done(17, 32), done(18, 48)), nil, []int{18, 17}, nil)
	tells(t, rows(done(18, 48), done(17, 64), done(17, 32), done(17, 80)), nil, []int{18, 17}, nil)
	// With the same one.
	tells(t, rows(done(17, 32), done(17, 32), done(17, 32)), nil, []int{17}, nil)
	tells(t, rows(done(17, 32), done(18, 32), done(17, 32), done(18, 32)), nil, []int{17, 18}, nil)
	tells(t, rows(done(17, 32), done(17, 32)), []int{17}, nil, nil)
	// With other commands ahead.
	tells(t, rows(done(17, 32, 90), done(17, 32)), nil, nil, []int{17})
	tells(t, rows(done(17, 32), done(17, 32, 90)), nil, []int{17}, nil)
	tells(t, rows(done(17, 32, 90), done(18, 48), done(17, 32), done(17, 64, 90)), nil, []int{18}, []int{17})
}

// TestAheadTwice is a name that stands twice, and that another command has among its P.
func TestAheadTwice(t *testing.T) {
	tells(t, rows(done(33, 48, 17), done(17, 32), fresh(17)), nil, []int{17, 33}, nil)
	tells(t, rows(done(33, 48, 17), fresh(17), done(17, 32)), nil, nil, []int{33})
	tells(t, rows(done(33, 48, 17), fresh(17), done(17, 32)), []int{17}, nil, []int{33})
	tells(t, rows(done(17, 32), done(33, 48, 17), fresh(17)), []int{17}, []int{33}, nil)
	// The first one says whether it is later than that command.
	tells(t, rows(done(33, 48, 17), done(17, 64, 90), done(17, 32)), nil, []int{33}, []int{17})
	tells(t, rows(done(33, 48, 17), done(17, 32, 90), done(17, 64)), nil, nil, []int{33, 17})
	tells(t, rows(done(17, 32, 90), done(33, 48, 17), done(17, 64)), nil, nil, []int{17, 33})
	tells(t, rows(done(17, 64), done(33, 48, 17), done(17, 32)), nil, []int{33, 17}, nil)
	// What waits for one that stands twice comes once.
	tells(t, rows(done(33, 48, 17), done(33, 40, 17), done(17, 32), done(17, 32)), nil, []int{17, 33}, nil)
}

// TestOneNameOtherCommand are different commands of one name: the name alone says which one is meant.
func TestOneNameOtherCommand(t *testing.T) {
	first, later := done(17, 32), done(17, 32)
	first.Cmd = api.Cmd{ID: 17, Kind: api.Cancel, Symbol: 2, Target: 16}
	l := rows(first, later, done(33, 48, 17))
	tells(t, l, nil, []int{17, 33}, nil)
	if got, _ := order.Next(l); got != first.Cmd {
		t.Errorf("Next: %v", got)
	}
	if got := order.All(l); !slices.Equal(got, []api.Cmd{first.Cmd, ask(33)}) {
		t.Errorf("All: %v", got)
	}
	l = rows(later, first, done(33, 48, 17))
	if got := order.All(l); !slices.Equal(got, asks(17, 33)) {
		t.Errorf("All the other way round: %v", got)
	}
	tells(t, l, []int{17}, []int{33}, nil)
	// Another symbol among P makes no other name.
	of := done(33, 48)
	of.V.P = []api.Cmd{{ID: 17, Symbol: 3, Kind: 9, Qty: -1}}
	tells(t, rows(of, first), nil, []int{17, 33}, nil)
	tells(t, rows(of), []int{17}, nil, []int{33})
}

// TestAheadOften is a name that stands more than once among another one's P.
func TestAheadOften(t *testing.T) {
	tells(t, rows(done(17, 48, 16, 16, 18, 16), done(18, 32), done(16, 24)), nil, []int{16, 18, 17}, nil)
	tells(t, rows(done(17, 48, 16, 16), done(16, 64)), nil, []int{17, 16}, nil)
	tells(t, rows(done(17, 48, 16, 16)), nil, nil, []int{17})
	tells(t, rows(done(17, 48, 16, 16, 18), done(16, 24), done(18, 32, 90)), nil, []int{16}, []int{17, 18})
	// Among a set that falls, or has anything at all in it.
	tells(t, rows(done(17, 48, 34, 33, 16, 0, -5), done(33, 40), done(34, 24), done(16, 99), done(0, 1), done(-5, 47)), nil,
		[]int{0, 34, 33, -5, 17, 16}, nil)
}
