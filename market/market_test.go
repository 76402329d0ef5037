package market_test

import (
	"fmt"
	"math"
	"slices"
	"testing"

	"lictor/api"
	"lictor/book"
	"lictor/market"
)

// What the document says, by its numbers.
const (
	symbols  = 4
	most     = 1 << 20 // of a price, and of a qty
	mostBook = 8
	mostTurn = 1 << 40
)

// name is that of replica 1's n-th command.
func name(n int) int { return 16*n + 1 }

func buy(n, price, qty int) api.Cmd {
	return api.Cmd{ID: name(n), Kind: api.Place, Side: api.Buy, Price: price, Qty: qty}
}

func sell(n, price, qty int) api.Cmd {
	return api.Cmd{ID: name(n), Kind: api.Place, Side: api.Sell, Price: price, Qty: qty}
}

func cancel(n, target int) api.Cmd {
	return api.Cmd{ID: name(n), Kind: api.Cancel, Target: name(target)}
}

func amend(n, target, qty int) api.Cmd {
	return api.Cmd{ID: name(n), Kind: api.Amend, Target: name(target), Qty: qty}
}

// of is a command of a symbol.
func of(symbol int, c api.Cmd) api.Cmd {
	c.Symbol = symbol
	return c
}

func gives(n, price, qty int) api.Fill { return api.Fill{Order: name(n), Price: price, Qty: qty} }

// rests is the order of which a command's place leaves so much.
func rests(c api.Cmd, left int) book.Order {
	return book.Order{ID: c.ID, Side: c.Side, Price: c.Price, Left: left}
}

func orders(l ...book.Order) []book.Order { return l }

// act is a command, and what is to be told of it.
type act struct {
	c    api.Cmd
	want api.Reply
}

func told(c api.Cmd, left int, fills ...api.Fill) act {
	return act{c, api.Reply{Fills: fills, Left: left}}
}

// whole are places of which all rests.
func whole(l ...api.Cmd) []act {
	var all []act
	for _, c := range l {
		all = append(all, told(c, c.Qty))
	}
	return all
}

// fails is a command of which an error alone is to be told.
func fails(c api.Cmd, err api.Errno) act { return act{c, api.Reply{Err: err}} }

func same(a, b api.Reply) bool {
	return a.Err == b.Err && a.Left == b.Left && slices.Equal(a.Fills, b.Fills)
}

// look is all that a market tells of a symbol.
func look(m *market.Market, symbol int) string {
	volume, value := m.Turnover(symbol)
	average, over := m.Average(symbol)
	return fmt.Sprint(m.Orders(symbol, api.Buy), m.Orders(symbol, api.Sell), volume, value, average, over)
}

// lookAll is what a market tells of each symbol.
func lookAll(m *market.Market) [symbols]string {
	var all [symbols]string
	for s := range all {
		all[s] = look(m, s)
	}
	return all
}

// do has a market do commands, and checks what is told of each, and that one with an error changes nothing, and none
// anything of another symbol.
func do(t *testing.T, m *market.Market, l ...act) {
	t.Helper()
	for i, a := range l {
		ahead := lookAll(m)
		if got := m.Apply(a.c); !same(got, a.want) {
			t.Fatalf("act %d, %+v: %+v, not %+v", i, a.c, got, a.want)
		}
		behind := lookAll(m)
		if a.want.Err == api.OK {
			ahead[a.c.Symbol] = behind[a.c.Symbol]
		}
		if behind != ahead {
			t.Fatalf("act %d, %+v: changed %v to %v", i, a.c, ahead, behind)
		}
	}
}

// made is a market that did commands.
func made(t *testing.T, l ...act) *market.Market {
	t.Helper()
	m := market.New()
	do(t, m, l...)
	return m
}

// check tells whether just these orders rest of a symbol, and that was turned over.
func check(t *testing.T, m *market.Market, symbol int, buys, sells []book.Order, volume, value int) {
	t.Helper()
	if got := m.Orders(symbol, api.Buy); !slices.Equal(got, buys) {
		t.Errorf("symbol %d, buys: %v, not %v", symbol, got, buys)
	}
	if got := m.Orders(symbol, api.Sell); !slices.Equal(got, sells) {
		t.Errorf("symbol %d, sells: %v, not %v", symbol, got, sells)
	}
	turns(t, m, symbol, volume, value)
}

// turns tells whether that was turned over of a symbol, and the average goes with it.
func turns(t *testing.T, m *market.Market, symbol, volume, value int) {
	t.Helper()
	if v, w := m.Turnover(symbol); v != volume || w != value {
		t.Errorf("symbol %d: turned over %d, %d, not %d, %d", symbol, v, w, volume, value)
	}
	a, over := m.Average(symbol)
	if volume == 0 && (a != 0 || over != 0) {
		t.Errorf("symbol %d, nothing filled: average %d, %d", symbol, a, over)
	}
	if volume > 0 && (a*volume+over != value || over < 0 || over >= volume) {
		t.Errorf("symbol %d: average %d, %d of %d, %d", symbol, a, over, volume, value)
	}
}

// turn has a symbol, of which nothing rests, turn over so much in value, at the highest prices; told is the volume.
func turn(t *testing.T, m *market.Market, symbol, value int) int {
	t.Helper()
	volume := 0
	for value > 0 {
		price := min(value, most)
		qty := min(value/price, most)
		do(t, m, told(of(symbol, sell(200, price, qty)), qty), told(of(symbol, buy(201, price, qty)), 0, gives(200, price, qty)))
		volume += qty
		value -= price * qty
	}
	return volume
}

// noSymbols are symbols that are none.
func noSymbols() []int {
	return []int{math.MinInt, -1 << 32, -4, -2, -1, 4, 5, 8, 1 << 32, 1<<32 + 1, math.MaxInt - 1, math.MaxInt}
}

// noSides are sides that are none.
func noSides() []api.Side {
	return []api.Side{math.MinInt, -1 << 32, -2, -1, 2, 3, 1 << 32, 1<<32 + 1, math.MaxInt}
}

// TestNew is P12.1: nothing rests in a new market, and nothing was turned over.
func TestNew(t *testing.T) {
	m := market.New()
	if m == nil {
		t.Fatal("nil")
	}
	for s := range symbols {
		check(t, m, s, nil, nil, 0, 0)
	}
	other := market.New()
	do(t, m, whole(buy(1, 5, 2))...)
	check(t, other, 0, nil, nil, 0, 0)
}

// TestPlace is P12.1 (K1): an order of the command's name, side and price, Qty left: without fills, with some, with
// something left; of each symbol.
func TestPlace(t *testing.T) {
	for s := range symbols {
		m := made(t, whole(of(s, sell(1, 5, 2)), of(s, sell(2, 6, 3)), of(s, buy(3, 4, 7)))...)
		check(t, m, s, orders(rests(buy(3, 4, 7), 7)), orders(rests(sell(1, 5, 2), 2), rests(sell(2, 6, 3), 3)), 0, 0)
		do(t, m, told(of(s, buy(4, 6, 1)), 0, gives(1, 5, 1)))
		check(t, m, s, orders(rests(buy(3, 4, 7), 7)), orders(rests(sell(1, 5, 2), 1), rests(sell(2, 6, 3), 3)), 1, 5)
		do(t, m, told(of(s, buy(5, 6, 9)), 5, gives(1, 5, 1), gives(2, 6, 3)))
		check(t, m, s, orders(rests(buy(5, 6, 9), 5), rests(buy(3, 4, 7), 7)), nil, 5, 28)
		do(t, m, told(of(s, sell(6, 1, 6)), 0, gives(5, 6, 5), gives(3, 4, 1)))
		check(t, m, s, orders(rests(buy(3, 4, 7), 6)), nil, 11, 62)
		do(t, m, told(of(s, sell(7, 4, 6)), 0, gives(3, 4, 6)))
		check(t, m, s, nil, nil, 17, 86)
	}
}

// TestPlaceMost is P12.1 (K1): prices and quantities at their edges.
func TestPlaceMost(t *testing.T) {
	m := made(t, whole(sell(1, most, 1), buy(2, 1, most), buy(3, 1, 1), sell(4, most, most))...)
	check(t, m, 0, orders(rests(buy(2, 1, most), most), rests(buy(3, 1, 1), 1)), orders(rests(sell(1, most, 1), 1), rests(sell(4, most, most), most)), 0, 0)
}

// TestPlaceNames is P12.1 (K1): commands of every replica, the first and the last of each.
func TestPlaceNames(t *testing.T) {
	for home := range 9 {
		for _, n := range []int{1, 2, 255, 256} {
			c := buy(1, 5, 2)
			c.ID = 16*n + home
			m := made(t, whole(c)...)
			check(t, m, 0, orders(rests(c, 2)), nil, 0, 0)
		}
	}
}

// TestCancel is P12.1 (K1): of its Target, not of its own name.
func TestCancel(t *testing.T) {
	for s := range symbols {
		m := made(t, whole(of(s, buy(1, 5, 2)), of(s, buy(2, 4, 3)), of(s, sell(3, 9, 4)))...)
		do(t, m, told(of(s, cancel(2, 1)), 2))
		check(t, m, s, orders(rests(buy(2, 4, 3), 3)), orders(rests(sell(3, 9, 4), 4)), 0, 0)
		do(t, m, fails(of(s, cancel(2, 1)), api.ErrNone), told(of(s, cancel(1, 3)), 4), told(of(s, cancel(2, 2)), 3))
		check(t, m, s, nil, nil, 0, 0)
	}
}

// TestAmend is P12.1 (K1): of its Target, to its Qty, not of its own name.
func TestAmend(t *testing.T) {
	for s := range symbols {
		m := made(t, whole(of(s, buy(1, 5, 2)), of(s, buy(2, 5, 3)), of(s, sell(3, 9, 4)))...)
		do(t, m, told(of(s, amend(2, 1, 1)), 1))
		check(t, m, s, orders(rests(buy(1, 5, 2), 1), rests(buy(2, 5, 3), 3)), orders(rests(sell(3, 9, 4), 4)), 0, 0)
		do(t, m, told(of(s, amend(2, 1, 7)), 7), told(of(s, amend(3, 3, most)), most), told(of(s, amend(4, 2, 3)), 3))
		check(t, m, s, orders(rests(buy(2, 5, 3), 3), rests(buy(1, 5, 2), 7)), orders(rests(sell(3, 9, 4), most)), 0, 0)
	}
}

// TestBookErrors is P12.1 (K1): each of the book's errors is told as it is, alone, the one that the book names first.
func TestBookErrors(t *testing.T) {
	eight := whole(buy(1, 5, 2))
	for n := 2; n <= mostBook; n++ {
		eight = append(eight, told(sell(n, 10, 1), 1))
	}
	m := made(t, eight...)
	do(t, m,
		fails(buy(20, 5, 0), api.ErrZero), fails(buy(1, 5, 0), api.ErrZero), fails(buy(20, 0, 0), api.ErrZero), fails(sell(20, 5, 0), api.ErrZero),
		fails(buy(20, 0, 1), api.ErrArg), fails(buy(1, 0, 1), api.ErrArg), fails(sell(20, 0, most), api.ErrArg),
		fails(buy(1, 10, 1), api.ErrTwice), fails(sell(1, 10, 1), api.ErrTwice), fails(buy(2, 9, 1), api.ErrTwice),
		fails(buy(20, 9, 1), api.ErrFull), fails(sell(20, 6, 1), api.ErrFull), fails(sell(20, most, most), api.ErrFull),
		fails(cancel(1, 20), api.ErrNone), fails(cancel(20, 20), api.ErrNone),
		fails(amend(1, 20, 1), api.ErrNone), fails(amend(1, 20, most), api.ErrNone), fails(amend(20, 20, 5), api.ErrNone),
		fails(amend(20, 1, 0), api.ErrZero), fails(amend(1, 20, 0), api.ErrZero),
	)
	turns(t, m, 0, 0, 0)
}
