package market_test

import (
	"math"
	"slices"
	"testing"

	"lictor/api"
	"lictor/market"
)

// TestTurnover is P12.1 (K1, K2): VOLUME and VALUE behind one fill, several fills of one command, several commands.
func TestTurnover(t *testing.T) {
	for s := range symbols {
		m := made(t, whole(of(s, sell(1, 7, 2)), of(s, sell(2, 8, 3)), of(s, sell(3, 10, 4)))...)
		turns(t, m, s, 0, 0)
		do(t, m, told(of(s, buy(4, 9, 1)), 0, gives(1, 7, 1)))
		turns(t, m, s, 1, 7)
		do(t, m, told(of(s, buy(4, 10, 6)), 0, gives(1, 7, 1), gives(2, 8, 3), gives(3, 10, 2)))
		turns(t, m, s, 7, 58)
		do(t, m, told(of(s, buy(4, 10, 5)), 3, gives(3, 10, 2)))
		turns(t, m, s, 9, 78)
		do(t, m, told(of(s, sell(5, 1, 1)), 0, gives(4, 10, 1)), told(of(s, cancel(5, 4)), 2))
		check(t, m, s, nil, nil, 10, 88)
	}
}

// TestTurnoverIsOfFillsAlone is P12.1 (K1): what is placed, amended and cancelled is turned over only as far as it is
// filled, at the price of the order that rested.
func TestTurnoverIsOfFillsAlone(t *testing.T) {
	m := made(t, whole(sell(1, 7, 2), buy(2, 5, 9), sell(3, 8, 3))...)
	do(t, m, told(amend(9, 1, most), most), told(amend(9, 1, 4), 4), told(cancel(9, 3), 3), fails(cancel(9, 3), api.ErrNone))
	turns(t, m, 0, 0, 0)
	do(t, m, told(buy(4, most, 4), 0, gives(1, 7, 4)))
	turns(t, m, 0, 4, 28)
	do(t, m, fails(buy(2, most, 4), api.ErrTwice), fails(buy(5, 0, 4), api.ErrArg), fails(buy(5, 4, 0), api.ErrZero))
	check(t, m, 0, orders(rests(buy(2, 5, 9), 9)), nil, 4, 28)
}

// TestAverage is P12.1 (K2): where nothing was filled, where it comes out even, where something is left over, the most.
func TestAverage(t *testing.T) {
	average := func(m *market.Market, symbol, want, over int) {
		t.Helper()
		if a, o := m.Average(symbol); a != want || o != over {
			t.Errorf("symbol %d: average %d, %d, not %d, %d", symbol, a, o, want, over)
		}
	}
	m := made(t, whole(sell(1, 5, 2), sell(2, 7, 2), sell(3, 9, 9))...)
	average(m, 0, 0, 0)
	for i, want := range [][2]int{{5, 0}, {5, 0}, {5, 2}, {6, 0}, {6, 3}, {7, 0}, {7, 2}, {7, 4}, {7, 6}, {7, 8}} {
		m.Apply(buy(4, 9, 1))
		average(m, 0, want[0], want[1])
		if volume, _ := m.Turnover(0); volume != i+1 {
			t.Fatalf("volume %d", volume)
		}
	}
	for s := 1; s < symbols; s++ {
		average(m, s, 0, 0)
	}
	turn(t, m, 1, mostTurn)
	average(m, 1, most, 0)
	turn(t, m, 2, mostTurn-1)
	average(m, 2, most-1, most-1)
	do(t, m, whole(of(3, sell(1, most, most-1)), of(3, buy(2, most/2, 2)))...)
	do(t, m, told(of(3, buy(3, most, most-1)), 0, gives(1, most, most-1)), told(of(3, sell(4, 1, 2)), 0, gives(2, most/2, 2)))
	turns(t, m, 3, most+1, mostTurn)
	average(m, 3, most-1, 1)
}

// TestOverAtOnce is P12.1 (K1): the greatest fill of all is just 2^40, where nothing was turned over.
func TestOverAtOnce(t *testing.T) {
	for s := range symbols {
		m := made(t, whole(of(s, sell(1, most, most)))...)
		do(t, m, told(of(s, buy(2, most, most)), 0, gives(1, most, most)))
		check(t, m, s, nil, nil, most, mostTurn)
		do(t, m, whole(of(s, buy(1, 1, 2)))...)
		do(t, m, fails(of(s, sell(2, 1, 1)), api.ErrOver), fails(of(s, sell(2, 1, most)), api.ErrOver))
		check(t, m, s, orders(rests(buy(1, 1, 2), 2)), nil, most, mostTurn)
	}
}

// TestOver is P12.1 (K1): VALUE one below 2^40, just at it, and one that would be above it, by the first, the last and
// the one in the middle of several fills; then nothing changes, and a lesser command goes through.
func TestOver(t *testing.T) {
	for s := range symbols {
		m := market.New()
		volume := turn(t, m, s, mostTurn-10)
		do(t, m, whole(of(s, sell(1, 3, 1)), of(s, sell(2, 3, 2)), of(s, sell(3, 4, 5)), of(s, buy(4, 2, 3)))...)
		sells := orders(rests(sell(1, 3, 1), 1), rests(sell(2, 3, 2), 2), rests(sell(3, 4, 5), 5))
		for qty := 4; qty < 12; qty++ {
			do(t, m, fails(of(s, buy(5, 4, qty)), api.ErrOver), fails(of(s, buy(5, most, qty)), api.ErrOver))
		}
		do(t, m, fails(of(s, buy(5, 4, most)), api.ErrOver), fails(of(s, buy(1, 4, most)), api.ErrTwice))
		check(t, m, s, orders(rests(buy(4, 2, 3), 3)), sells, volume, mostTurn-10)
		do(t, m, told(of(s, buy(5, 4, 3)), 0, gives(1, 3, 1), gives(2, 3, 2)))
		turns(t, m, s, volume+3, mostTurn-1)
		do(t, m, fails(of(s, buy(5, 4, 1)), api.ErrOver), fails(of(s, sell(5, 2, 1)), api.ErrOver), told(of(s, cancel(5, 4)), 3))
		do(t, m, told(of(s, buy(5, 1, 4)), 4), told(of(s, sell(6, 1, 1)), 0, gives(5, 1, 1)))
		check(t, m, s, orders(rests(buy(5, 1, 4), 3)), orders(rests(sell(3, 4, 5), 5)), volume+4, mostTurn)
		do(t, m, fails(of(s, sell(6, 1, 1)), api.ErrOver), fails(of(s, buy(6, 4, 1)), api.ErrOver))
		check(t, m, s, orders(rests(buy(5, 1, 4), 3)), orders(rests(sell(3, 4, 5), 5)), volume+4, mostTurn)
	}
}

// TestOverByEach is P12.1 (K1): eight fills, of which just the k-th brings VALUE above 2^40, for each k; one less goes
// through.
func TestOverByEach(t *testing.T) {
	for k := 1; k <= mostBook; k++ {
		m := market.New()
		volume := turn(t, m, 2, mostTurn-2*k+1)
		var fills []api.Fill
		for n := 1; n <= mostBook; n++ {
			do(t, m, whole(of(2, sell(n, 2, 1)))...)
			fills = append(fills, gives(n, 2, 1))
		}
		for qty := k; qty <= mostBook+1; qty++ {
			do(t, m, fails(of(2, buy(20, 2, qty)), api.ErrOver))
		}
		if k > 1 {
			do(t, m, told(of(2, buy(20, 2, k-1)), 0, fills[:k-1]...))
		}
		turns(t, m, 2, volume+k-1, mostTurn-1)
		if got := m.Orders(2, api.Sell); len(got) != mostBook-k+1 || got[0].ID != name(k) {
			t.Errorf("%d: %v", k, got)
		}
	}
}

// TestValueAlone is P12.1 (K1): VALUE is above 2^40 while VOLUME is far from it. (The other way round can't be, as no
// price is below 1.)
func TestValueAlone(t *testing.T) {
	m := made(t, whole(sell(1, most, 1))...)
	do(t, m, told(buy(2, most, 1), 0, gives(1, most, 1)))
	do(t, m, whole(sell(1, most, most))...)
	do(t, m, fails(buy(2, most, most), api.ErrOver), told(buy(2, most, most-1), 0, gives(1, most, most-1)))
	check(t, m, 0, nil, orders(rests(sell(1, most, most), 1)), most, mostTurn)
	do(t, m, fails(buy(2, most, 1), api.ErrOver))
}

// TestVolume is P12.1 (K1): VOLUME one below 2^40, just at it, and one that would be above it, all of it at the price 1;
// what has no fills goes through there.
func TestVolume(t *testing.T) {
	m := market.New()
	fill := func(qty int) api.Errno {
		m.Apply(of(3, sell(1, 1, qty)))
		got := m.Apply(of(3, buy(2, 1, qty)))
		if got.Err == api.OK && !same(got, api.Reply{Fills: []api.Fill{gives(1, 1, qty)}}) {
			t.Fatalf("%d: %+v", qty, got)
		}
		return got.Err
	}
	for i := range most - 1 {
		if err := fill(most); err != api.OK {
			t.Fatalf("fill %d: %d", i, err)
		}
	}
	check(t, m, 3, nil, nil, mostTurn-most, mostTurn-most)
	if err := fill(most - 1); err != api.OK {
		t.Fatal(err)
	}
	check(t, m, 3, nil, nil, mostTurn-1, mostTurn-1)
	if err := fill(2); err != api.ErrOver {
		t.Fatal(err)
	}
	check(t, m, 3, nil, orders(rests(sell(1, 1, 2), 2)), mostTurn-1, mostTurn-1)
	do(t, m, told(of(3, buy(2, 1, 1)), 0, gives(1, 1, 1)))
	check(t, m, 3, nil, orders(rests(sell(1, 1, 2), 1)), mostTurn, mostTurn)
	do(t, m, fails(of(3, buy(2, 1, 1)), api.ErrOver), fails(of(3, buy(2, most, most)), api.ErrOver))
	do(t, m, told(of(3, amend(9, 1, 5)), 5), told(of(3, sell(4, 2, 3)), 3), told(of(3, cancel(9, 1)), 5), told(of(3, buy(5, 1, 7)), 7), fails(of(3, sell(6, 1, 1)), api.ErrOver))
	check(t, m, 3, orders(rests(buy(5, 1, 7), 7)), orders(rests(sell(4, 2, 3), 3)), mostTurn, mostTurn)
}

// TestMostStays is P12.1 (K1): at 2^40 what has no fills goes through, and what was turned over stays when its orders
// are gone.
func TestMostStays(t *testing.T) {
	m := market.New()
	do(t, m, whole(sell(1, most, most), sell(2, most, 3))...)
	do(t, m, told(buy(3, most, most), 0, gives(1, most, most)))
	do(t, m, whole(buy(3, most-1, most), sell(4, most, most))...)
	do(t, m, told(amend(9, 2, most), most), told(amend(9, 3, 1), 1), told(cancel(9, 4), most), told(amend(9, 3, most), most))
	check(t, m, 0, orders(rests(buy(3, most-1, most), most)), orders(rests(sell(2, most, 3), most)), most, mostTurn)
	do(t, m, fails(buy(5, most, 1), api.ErrOver), told(cancel(5, 2), most), told(buy(5, most, 1), 1), told(cancel(6, 5), 1), told(cancel(6, 3), most))
	check(t, m, 0, nil, nil, most, mostTurn)
	do(t, m, fails(cancel(6, 3), api.ErrNone), fails(amend(6, 3, 0), api.ErrZero), fails(buy(5, 0, 1), api.ErrArg), fails(buy(5, 0, 0), api.ErrZero))
	check(t, m, 0, nil, nil, most, mostTurn)
}

// TestOverFull is P12.1 (K1): at 2^40, and with 8 that rest, one without fills is told ErrFull, one with fills ErrOver,
// also if nothing of it would rest.
func TestOverFull(t *testing.T) {
	m := market.New()
	turn(t, m, 1, mostTurn)
	for n := 1; n <= mostBook; n++ {
		do(t, m, whole(of(1, sell(n, 10, n)))...)
	}
	do(t, m,
		fails(of(1, buy(20, 9, 1)), api.ErrFull), fails(of(1, sell(20, 9, 1)), api.ErrFull),
		fails(of(1, buy(20, 10, 1)), api.ErrOver), fails(of(1, buy(20, 10, most)), api.ErrOver),
		fails(of(1, buy(1, 10, 1)), api.ErrTwice), told(of(1, cancel(20, 8)), 8), told(of(1, buy(20, 9, 1)), 1),
	)
}

// TestTurnoverOfEach is P12.2: what was turned over of one symbol counts for no other one.
func TestTurnoverOfEach(t *testing.T) {
	m := market.New()
	var volumes [symbols]int
	for s := range symbols {
		volumes[s] = turn(t, m, s, mostTurn-s)
	}
	for s := range symbols {
		turns(t, m, s, volumes[s], mostTurn-s)
		do(t, m, whole(of(s, sell(1, 1, 9)))...)
	}
	for s := range symbols {
		do(t, m, fails(of(s, buy(2, 1, s+1)), api.ErrOver))
		if s > 0 {
			do(t, m, told(of(s, buy(2, 1, s)), 0, gives(1, 1, s)))
		}
	}
	for s := range symbols {
		check(t, m, s, nil, orders(rests(sell(1, 1, 9), 9-s)), volumes[s]+s, mostTurn)
	}
}

// TestOrdersOfEach is P12.2: orders of one name rest of every symbol, and meet, fill, amend and take away those of their
// own one alone.
func TestOrdersOfEach(t *testing.T) {
	m := market.New()
	for s := range symbols {
		do(t, m, whole(of(s, sell(1, 5+s, 2+s)), of(s, buy(2, 3, 9)))...)
	}
	do(t, m, told(of(1, buy(3, 20, 1)), 0, gives(1, 6, 1)), told(of(2, cancel(3, 1)), 4), told(of(3, amend(3, 2, 1)), 1), fails(of(2, amend(3, 1, 5)), api.ErrNone))
	check(t, m, 0, orders(rests(buy(2, 3, 9), 9)), orders(rests(sell(1, 5, 2), 2)), 0, 0)
	check(t, m, 1, orders(rests(buy(2, 3, 9), 9)), orders(rests(sell(1, 6, 3), 2)), 1, 6)
	check(t, m, 2, orders(rests(buy(2, 3, 9), 9)), nil, 0, 0)
	check(t, m, 3, orders(rests(buy(2, 3, 9), 1)), orders(rests(sell(1, 8, 5), 5)), 0, 0)
	for s := range symbols {
		for n := 10; n < 16; n++ {
			do(t, m, whole(of(s, buy(n, 1, 1)))...)
		}
	}
}

// TestNoSymbol is P12.1 (K2): of what is no symbol, and of what is no side, there is nothing.
func TestNoSymbol(t *testing.T) {
	m := market.New()
	for s := range symbols {
		do(t, m, whole(of(s, sell(1, 5, 3)), of(s, buy(2, 4, 1)))...)
		do(t, m, told(of(s, buy(3, 5, 1)), 0, gives(1, 5, 1)))
		check(t, m, s, orders(rests(buy(2, 4, 1), 1)), orders(rests(sell(1, 5, 3), 2)), 1, 5)
		for _, side := range noSides() {
			if got := m.Orders(s, side); len(got) != 0 {
				t.Errorf("symbol %d, side %d: %v", s, side, got)
			}
		}
	}
	for _, s := range noSymbols() {
		nothing(t, m, s)
	}
}

// nothing tells whether a market tells nothing of a symbol.
func nothing(t *testing.T, m *market.Market, symbol int) {
	t.Helper()
	for _, side := range append(noSides(), api.Buy, api.Sell) {
		if got := m.Orders(symbol, side); len(got) != 0 {
			t.Errorf("symbol %d, side %d: %v", symbol, side, got)
		}
	}
	if v, w := m.Turnover(symbol); v != 0 || w != 0 {
		t.Errorf("symbol %d: turned over %d, %d", symbol, v, w)
	}
	if a, over := m.Average(symbol); a != 0 || over != 0 {
		t.Errorf("symbol %d: average %d, %d", symbol, a, over)
	}
}

// wrong are commands that may not be, each by one part alone.
func wrong(c api.Cmd) []api.Cmd {
	noNames := []int{math.MinInt, -1 << 32, -17, -1, 1, 15, 25, 31, 16*256 + 9, 16*257 - 1, 16 * 257, 16*257 + 1, 1<<32 + 17, math.MaxInt}
	below := []int{math.MinInt, -1<<32 + 1, -2, -1}
	above := []int{1 << 32, 1<<32 + 1, math.MaxInt}
	var all []api.Cmd
	with := func(l []int, change func(*api.Cmd, int)) {
		for _, n := range l {
			d := c
			change(&d, n)
			all = append(all, d)
		}
	}
	// A part that is 0 may be any other number wrong then, but for those that its kind allows.
	sides, prices, qtys, targets := slices.Concat(below, []int{1, 2}, above), slices.Concat(below, []int{1, most + 1}, above), slices.Concat(below, []int{1, most + 1}, above), append(noNames, 0)
	if c.Kind == api.Place {
		sides, prices, targets = slices.Concat(below, []int{2, 3}, above), slices.Concat(below, []int{most + 1}, above), append(noNames, name(1), name(2))
	}
	if c.Kind != api.Cancel {
		qtys = slices.Concat(below, []int{most + 1}, above)
	}
	with(append(noNames, 0), func(d *api.Cmd, n int) { d.ID = n })
	with(noSymbols(), func(d *api.Cmd, n int) { d.Symbol = n })
	with(slices.Concat(below, []int{3, 4}, above), func(d *api.Cmd, n int) { d.Kind = api.Kind(n) })
	with(targets, func(d *api.Cmd, n int) { d.Target = n })
	with(sides, func(d *api.Cmd, n int) { d.Side = api.Side(n) })
	with(prices, func(d *api.Cmd, n int) { d.Price = n })
	with(qtys, func(d *api.Cmd, n int) { d.Qty = n })
	return all
}

// TestMayNotBe is P12.1 (K1): ErrArg alone, and nothing, of a command that may not be, of each kind, for each of its
// parts, ahead of what the book would tell: of one that would rest, that would be filled, that would be above 2^40, and
// of each of the book's errors.
func TestMayNotBe(t *testing.T) {
	full := market.New()
	turn(t, full, 3, mostTurn)
	for n := 1; n <= mostBook; n++ {
		do(t, full, whole(of(3, sell(n, 10, 5)))...)
	}
	some := made(t, whole(of(3, sell(1, 10, 5)), of(3, buy(2, 5, 5)))...)
	for _, m := range []*market.Market{market.New(), some, full} {
		ahead := lookAll(m)
		for _, right := range []api.Cmd{
			buy(20, 5, 1), buy(20, 10, 1), buy(20, 10, most), buy(20, 10, 0), buy(20, 0, 1), buy(1, 9, 1), sell(20, 10, 1), sell(20, 5, 7), sell(1, 0, 0),
			cancel(20, 1), cancel(1, 2), cancel(1, 20), amend(20, 1, 9), amend(1, 2, 0), amend(20, 20, 1), amend(20, 1, most),
		} {
			for _, c := range wrong(of(3, right)) {
				if got := m.Apply(c); !same(got, api.Reply{Err: api.ErrArg}) {
					t.Fatalf("%+v: %+v", c, got)
				}
			}
		}
		if got := m.Apply(api.Cmd{}); !same(got, api.Reply{Err: api.ErrArg}) {
			t.Errorf("of nothing: %+v", got)
		}
		if behind := lookAll(m); behind != ahead {
			t.Fatalf("changed %v to %v", ahead, behind)
		}
	}
}
