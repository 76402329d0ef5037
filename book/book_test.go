package book_test

import (
	"fmt"
	"math"
	"slices"
	"testing"

	"lictor/api"
	"lictor/book"
)

// What the document says, by its numbers.
const (
	mostPrice = 1 << 20
	mostLeft  = 1 << 20
	mostBook  = 8
)

func buy(id, price, left int) book.Order  { return book.Order{id, api.Buy, price, left} }
func sell(id, price, left int) book.Order { return book.Order{id, api.Sell, price, left} }

// act is one on a book, and what is to be told of it.
type act struct {
	what  string
	o     book.Order // of place
	id, n int        // of cancel, of amend
	want  api.Reply
}

func place(o book.Order, left int, fills ...api.Fill) act {
	return act{what: "place", o: o, want: api.Reply{Fills: fills, Left: left}}
}

func cancel(id, left int) act {
	return act{what: "cancel", id: id, want: api.Reply{Left: left}}
}

func amend(id, n int) act {
	return act{what: "amend", id: id, n: n, want: api.Reply{Left: n}}
}

// fails is the same act, of which an error alone is to be told.
func (a act) fails(err api.Errno) act {
	a.want = api.Reply{Err: err}
	return a
}

// rests are acts that place orders, each of which rests whole.
func rests(l ...book.Order) []act {
	var all []act
	for _, o := range l {
		all = append(all, place(o, o.Left))
	}
	return all
}

// on does an act on a book, and tells what is told.
func (a act) on(b *book.Book) api.Reply {
	switch a.what {
	case "place":
		return b.Place(a.o)
	case "cancel":
		return b.Cancel(a.id)
	}
	return b.Amend(a.id, a.n)
}

// do does acts on a book, and checks what is told of each, and that one with an error changes nothing.
func do(t *testing.T, b *book.Book, l ...act) {
	t.Helper()
	for i, a := range l {
		buys, sells := b.Orders(api.Buy), b.Orders(api.Sell)
		if got := a.on(b); !same(got, a.want) {
			t.Fatalf("act %d, %+v: %+v", i, a, got)
		}
		if a.want.Err != api.OK {
			check(t, b, buys, sells)
		}
	}
}

// of is a book on which acts were done.
func of(t *testing.T, l ...act) *book.Book {
	t.Helper()
	b := book.New()
	do(t, b, l...)
	return b
}

func same(a, b api.Reply) bool {
	return a.Err == b.Err && a.Left == b.Left && slices.Equal(a.Fills, b.Fills)
}

// check tells whether just these orders rest in a book, in order, and none on a side that is none, or by another name.
func check(t *testing.T, b *book.Book, buys, sells []book.Order) {
	t.Helper()
	if got := b.Orders(api.Buy); !slices.Equal(got, buys) {
		t.Fatalf("buys: %v, not %v", got, buys)
	}
	if got := b.Orders(api.Sell); !slices.Equal(got, sells) {
		t.Fatalf("sells: %v, not %v", got, sells)
	}
	for _, s := range noSides() {
		if got := b.Orders(s); len(got) != 0 {
			t.Fatalf("side %d: %v", s, got)
		}
	}
	all := slices.Concat(buys, sells)
	for _, o := range all {
		if got, ok := b.Find(o.ID); !ok || got != o {
			t.Fatalf("%v: found %v %v", o, got, ok)
		}
	}
	for _, id := range append(noNames(), 1, 2, 7, 15, 1<<32+1, math.MaxInt) {
		if slices.ContainsFunc(all, func(o book.Order) bool { return o.ID == id }) {
			continue
		}
		if got, ok := b.Find(id); ok || got != (book.Order{}) {
			t.Fatalf("name %d: found %v %v", id, got, ok)
		}
	}
}

// noSides are sides that are none.
func noSides() []api.Side {
	return []api.Side{math.MinInt, -1 << 32, -2, -1, 2, 3, 1 << 32, 1<<32 + 1, math.MaxInt}
}

// noNames are names that no order has.
func noNames() []int { return []int{math.MinInt, -1 << 32, -17, -1, 0} }

// tooMuch are prices, and how much is left, that may not be; 0 is none of them.
func tooMuch() []int {
	return []int{math.MinInt, math.MinInt + 1, -1<<32 + 1, -mostPrice, -2, -1, mostPrice + 1, mostPrice + 2, 2 * mostPrice, 1 << 32, 1<<32 + 1, math.MaxInt}
}

// turned is an order of the other side, whose price is as good there.
func turned(o book.Order) book.Order {
	return book.Order{o.ID, 1 - o.Side, mostPrice + 1 - o.Price, o.Left}
}

func turnedAll(l []book.Order) []book.Order {
	var all []book.Order
	for _, o := range l {
		all = append(all, turned(o))
	}
	return all
}

// turned is the act with turned orders.
func (a act) turned() act {
	if a.what == "place" {
		a.o = turned(a.o)
	}
	fills := slices.Clone(a.want.Fills)
	for i := range fills {
		fills[i].Price = mostPrice + 1 - fills[i].Price
	}
	a.want.Fills = fills
	return a
}

// example is a row of acts on an empty book, and what rests then.
type example struct {
	name  string
	acts  []act
	buys  []book.Order
	sells []book.Order
}

// run checks examples, each as it is, and with buys for sells and sells for buys.
func run(t *testing.T, l []example) {
	t.Helper()
	for _, e := range l {
		t.Run(e.name, func(t *testing.T) {
			check(t, of(t, e.acts...), e.buys, e.sells)
			var other []act
			for _, a := range e.acts {
				other = append(other, a.turned())
			}
			check(t, of(t, other...), turnedAll(e.sells), turnedAll(e.buys))
		})
	}
}

// orders are some, that rest.
func orders(l ...book.Order) []book.Order { return l }

// gives is a fill.
func gives(id, price, qty int) api.Fill { return api.Fill{Order: id, Price: price, Qty: qty} }

// then are acts, and more behind them, in memory of their own.
func then(l []act, more ...act) []act { return slices.Concat(l, more) }

// acts are some, one behind the other.
func acts(l ...[]act) []act { return slices.Concat(l...) }

// TestNew is P11.1: a new book is empty, and each is another one.
func TestNew(t *testing.T) {
	b, c := book.New(), book.New()
	if b == nil || c == nil || b == c {
		t.Fatalf("%p %p", b, c)
	}
	do(t, b, rests(buy(1, 5, 2))...)
	check(t, b, orders(buy(1, 5, 2)), nil)
	check(t, c, nil, nil)
}

// TestMayBe is P11.1 (B1): each part of an order at its edges, of both sides.
func TestMayBe(t *testing.T) {
	for _, s := range []api.Side{api.Buy, api.Sell} {
		for _, id := range []int{1, 2, 16, 17, 1 << 32, math.MaxInt} {
			for _, price := range []int{1, 2, mostPrice - 1, mostPrice} {
				for _, left := range []int{1, 2, mostLeft - 1, mostLeft} {
					o := book.Order{id, s, price, left}
					b := of(t, place(o, left))
					if s == api.Buy {
						check(t, b, orders(o), nil)
					} else {
						check(t, b, nil, orders(o))
					}
				}
			}
		}
	}
}

// TestMayNotBe is P11.1 (B1): ErrArg of a side, a name, a price, and what is left that may not be; ErrZero of 0 that is
// left; whatever rests, and whatever it would meet.
func TestMayNotBe(t *testing.T) {
	for _, b := range []*book.Book{
		book.New(),
		of(t, rests(buy(1, 5, 2), sell(2, 9, 2))...),
		of(t, rests(row(mostBook, api.Sell, 1)...)...),
	} {
		for _, s := range noSides() {
			do(t, b, place(book.Order{30, s, 5, 2}, 0).fails(api.ErrArg))
		}
		for _, s := range []api.Side{api.Buy, api.Sell} {
			for _, id := range noNames() {
				do(t, b, place(book.Order{id, s, 5, 2}, 0).fails(api.ErrArg))
			}
			for _, price := range append(tooMuch(), 0) {
				do(t, b, place(book.Order{30, s, price, 2}, 0).fails(api.ErrArg))
			}
			for _, left := range tooMuch() {
				do(t, b, place(book.Order{30, s, 5, left}, 0).fails(api.ErrArg))
			}
			do(t, b, place(book.Order{30, s, 5, 0}, 0).fails(api.ErrZero))
		}
	}
}

// TestWhichError is P11.1 (B1): of any errors together that is told which is named first: ErrZero, ErrArg, ErrTwice,
// ErrFull.
func TestWhichError(t *testing.T) {
	full := row(mostBook, api.Sell, 100)
	for which := range 1 << 6 {
		zero, side, name, price, twice, isFull := which&1 != 0, which&2 != 0, which&4 != 0, which&8 != 0, which&16 != 0, which&32 != 0
		if name && twice {
			continue // no such name rests
		}
		o, want := buy(30, 5, 2), api.OK
		var b *book.Book
		if isFull {
			b, want = of(t, rests(full...)...), api.ErrFull
		} else {
			b = of(t, rests(full[:3]...)...)
		}
		if twice {
			o.ID, want = full[2].ID, api.ErrTwice
		}
		if side {
			o.Side, want = 2, api.ErrArg
		}
		if name {
			o.ID, want = 0, api.ErrArg
		}
		if price {
			o.Price, want = mostPrice+1, api.ErrArg
		}
		if zero {
			o.Left, want = 0, api.ErrZero
		}
		if want == api.OK {
			do(t, b, place(o, 2))
		} else {
			do(t, b, place(o, 0).fails(want))
		}
		for _, left := range tooMuch() {
			o.Left = left
			if want != api.OK {
				do(t, b, place(o, 0).fails(api.ErrArg))
			}
		}
	}
}

// TestTwice is P11.1 (B1): ErrTwice of a name that rests, on either side, also if it would be filled, by itself or by
// others; no name that rests no more is one.
func TestTwice(t *testing.T) {
	both := rests(buy(1, 5, 2), buy(2, 4, 1), sell(3, 7, 2), sell(4, 8, 1))
	var again []act
	for _, s := range []api.Side{api.Buy, api.Sell} {
		for id := 1; id <= 4; id++ {
			for _, price := range []int{1, 4, 5, 6, 7, 8, mostPrice} {
				for _, left := range []int{1, 2, 9} {
					again = append(again, place(book.Order{id, s, price, left}, 0).fails(api.ErrTwice))
				}
			}
		}
	}
	run(t, []example{
		{"of both sides", acts(both, again), orders(buy(1, 5, 2), buy(2, 4, 1)), orders(sell(3, 7, 2), sell(4, 8, 1))},
		{"behind a cancel", acts(both, []act{cancel(1, 2), place(sell(1, 9, 3), 3), place(buy(1, 3, 3), 0).fails(api.ErrTwice)}), orders(buy(2, 4, 1)), orders(sell(3, 7, 2), sell(4, 8, 1), sell(1, 9, 3))},
		{"filled whole by another one", acts(both, []act{place(buy(5, 7, 2), 0, gives(3, 7, 2)), place(buy(3, 6, 1), 1)}), orders(buy(3, 6, 1), buy(1, 5, 2), buy(2, 4, 1)), orders(sell(4, 8, 1))},
		{"filled, but not whole", acts(both, []act{place(buy(5, 7, 1), 0, gives(3, 7, 1)), place(buy(3, 6, 1), 0).fails(api.ErrTwice)}), orders(buy(1, 5, 2), buy(2, 4, 1)), orders(sell(3, 7, 1), sell(4, 8, 1))},
		{"filled whole at once", acts(both, []act{place(buy(5, 7, 1), 0, gives(3, 7, 1)), place(buy(5, 7, 1), 0, gives(3, 7, 1)), place(buy(5, 7, 1), 1)}), orders(buy(5, 7, 1), buy(1, 5, 2), buy(2, 4, 1)), orders(sell(4, 8, 1))},
		{"what was left of it rests", acts(both, []act{place(buy(5, 7, 3), 1, gives(3, 7, 2)), place(buy(5, 7, 1), 0).fails(api.ErrTwice), place(sell(5, 7, 1), 0).fails(api.ErrTwice)}), orders(buy(5, 7, 1), buy(1, 5, 2), buy(2, 4, 1)), orders(sell(4, 8, 1))},
		{"behind an amend", acts(both, []act{amend(2, 3), place(buy(2, 3, 1), 0).fails(api.ErrTwice), amend(2, 1), place(sell(2, 9, 1), 0).fails(api.ErrTwice)}), orders(buy(1, 5, 2), buy(2, 4, 1)), orders(sell(3, 7, 2), sell(4, 8, 1))},
	})
}

// TestMeets is P11.1 (B1): an order is filled at the price of the first one of the other side, and at a better one; one
// at a worse one is not, and rests.
func TestMeets(t *testing.T) {
	one := rests(sell(1, 5, 2))
	run(t, []example{
		{"one below", acts(one, rests(buy(2, 4, 1))), orders(buy(2, 4, 1)), orders(sell(1, 5, 2))},
		{"far below", acts(one, rests(buy(2, 1, 1))), orders(buy(2, 1, 1)), orders(sell(1, 5, 2))},
		{"at its price", then(one, place(buy(2, 5, 1), 0, gives(1, 5, 1))), nil, orders(sell(1, 5, 1))},
		{"one above", then(one, place(buy(2, 6, 1), 0, gives(1, 5, 1))), nil, orders(sell(1, 5, 1))},
		{"far above", then(one, place(buy(2, mostPrice, 1), 0, gives(1, 5, 1))), nil, orders(sell(1, 5, 1))},
		{"below the first one, above none", acts(one, rests(sell(3, 6, 1), buy(2, 4, 9))), orders(buy(2, 4, 9)), orders(sell(1, 5, 2), sell(3, 6, 1))},
		{"the first one alone", acts(one, rests(sell(3, 6, 1)), []act{place(buy(2, 5, 9), 7, gives(1, 5, 2))}), orders(buy(2, 5, 7)), orders(sell(3, 6, 1))},
		{"of its own side none", acts(one, rests(sell(2, 5, 1), sell(3, 4, 1), sell(4, 6, 1))), nil, orders(sell(3, 4, 1), sell(1, 5, 2), sell(2, 5, 1), sell(4, 6, 1))},
		{"at the edges", acts(rests(sell(1, mostPrice, mostLeft), buy(2, mostPrice-1, 1)), []act{place(buy(3, mostPrice, mostLeft), 0, gives(1, mostPrice, mostLeft))}), orders(buy(2, mostPrice-1, 1)), nil},
		{"at the other edges", acts(rests(sell(1, 1, mostLeft)), []act{place(buy(3, mostPrice, mostLeft-1), 0, gives(1, 1, mostLeft-1))}), nil, orders(sell(1, 1, 1))},
		{"none any more", then(one, cancel(1, 2), place(buy(2, 5, 1), 1)), orders(buy(2, 5, 1)), nil},
	})
}

// TestFills is P11.1 (B1) and P11.4: what fills an order, in order, each at its own price; what is left of each.
func TestFills(t *testing.T) {
	three := rests(sell(1, 7, 2), sell(2, 5, 3), sell(3, 6, 4))
	run(t, []example{
		{"whole, by a part of one", then(three, place(buy(9, 8, 2), 0, gives(2, 5, 2))), nil, orders(sell(2, 5, 1), sell(3, 6, 4), sell(1, 7, 2))},
		{"just so, by one", then(three, place(buy(9, 8, 3), 0, gives(2, 5, 3))), nil, orders(sell(3, 6, 4), sell(1, 7, 2))},
		{"by one, and a part of one", then(three, place(buy(9, 8, 4), 0, gives(2, 5, 3), gives(3, 6, 1))), nil, orders(sell(3, 6, 3), sell(1, 7, 2))},
		{"just so, by two", then(three, place(buy(9, 8, 7), 0, gives(2, 5, 3), gives(3, 6, 4))), nil, orders(sell(1, 7, 2))},
		{"by two, and a part of one", then(three, place(buy(9, 7, 8), 0, gives(2, 5, 3), gives(3, 6, 4), gives(1, 7, 1))), nil, orders(sell(1, 7, 1))},
		{"just so, by all", then(three, place(buy(9, 7, 9), 0, gives(2, 5, 3), gives(3, 6, 4), gives(1, 7, 2))), nil, nil},
		{"by all, and one is left", then(three, place(buy(9, 7, 10), 1, gives(2, 5, 3), gives(3, 6, 4), gives(1, 7, 2))), orders(buy(9, 7, 1)), nil},
		{"by all, and much is left", then(three, place(buy(9, 7, mostLeft), mostLeft-9, gives(2, 5, 3), gives(3, 6, 4), gives(1, 7, 2))), orders(buy(9, 7, mostLeft-9)), nil},
		{"as far as it meets", then(three, place(buy(9, 6, 10), 3, gives(2, 5, 3), gives(3, 6, 4))), orders(buy(9, 6, 3)), orders(sell(1, 7, 2))},
		{"just so, as far as it meets", then(three, place(buy(9, 6, 7), 0, gives(2, 5, 3), gives(3, 6, 4))), nil, orders(sell(1, 7, 2))},
		{"one behind the other", then(three, place(buy(9, 7, 2), 0, gives(2, 5, 2)), place(buy(9, 7, 2), 0, gives(2, 5, 1), gives(3, 6, 1)), place(buy(9, 6, 5), 2, gives(3, 6, 3))), orders(buy(9, 6, 2)), orders(sell(1, 7, 2))},
		{"what is left fills others", then(three, place(buy(9, 6, 10), 3, gives(2, 5, 3), gives(3, 6, 4)), place(sell(8, 1, 4), 1, gives(9, 6, 3))), nil, orders(sell(8, 1, 1), sell(1, 7, 2))},
		{"what is left rests behind all of its price", acts(rests(buy(4, 6, 1), sell(5, 7, 1), buy(6, 5, 1)), []act{place(sell(7, 6, 3), 2, gives(4, 6, 1)), place(sell(8, 6, 1), 1), place(buy(9, 6, 4), 1, gives(7, 6, 2), gives(8, 6, 1)), place(buy(10, 6, 1), 1)}), orders(buy(9, 6, 1), buy(10, 6, 1), buy(6, 5, 1)), orders(sell(5, 7, 1))},
		{"the example of the whole", acts(rests(sell(1, 5, 2)), []act{place(buy(2, 6, 1), 0, gives(1, 5, 1))}), nil, orders(sell(1, 5, 1))},
	})
}

// TestLonger is P11.1 (B1) and P11.4: of one price that goes first which rests longer, whatever its name, how much is
// left of it, and what rests beside.
func TestLonger(t *testing.T) {
	four := rests(sell(4, 5, 1), sell(2, 5, 3), sell(9, 5, 2), sell(1, 5, 1))
	run(t, []example{
		{"in order", four, nil, orders(sell(4, 5, 1), sell(2, 5, 3), sell(9, 5, 2), sell(1, 5, 1))},
		{"the longest", then(four, place(buy(7, 5, 1), 0, gives(4, 5, 1))), nil, orders(sell(2, 5, 3), sell(9, 5, 2), sell(1, 5, 1))},
		{"a part of the second", then(four, place(buy(7, 5, 2), 0, gives(4, 5, 1), gives(2, 5, 1))), nil, orders(sell(2, 5, 2), sell(9, 5, 2), sell(1, 5, 1))},
		{"who gave a part stays first", then(four, place(buy(7, 5, 2), 0, gives(4, 5, 1), gives(2, 5, 1)), place(buy(7, 5, 1), 0, gives(2, 5, 1)), place(buy(7, 9, 2), 0, gives(2, 5, 1), gives(9, 5, 1))), nil, orders(sell(9, 5, 1), sell(1, 5, 1))},
		{"all", then(four, place(buy(7, 6, 7), 0, gives(4, 5, 1), gives(2, 5, 3), gives(9, 5, 2), gives(1, 5, 1))), nil, nil},
		{"a better one ahead", acts(four, rests(sell(6, 4, 1)), []act{place(buy(7, 5, 2), 0, gives(6, 4, 1), gives(4, 5, 1))}), nil, orders(sell(2, 5, 3), sell(9, 5, 2), sell(1, 5, 1))},
		{"between two prices", acts(rests(sell(1, 6, 1), sell(2, 4, 1), sell(3, 5, 1), sell(4, 4, 1), sell(5, 6, 1), sell(6, 5, 1), sell(7, 4, 1))), nil, orders(sell(2, 4, 1), sell(4, 4, 1), sell(7, 4, 1), sell(3, 5, 1), sell(6, 5, 1), sell(1, 6, 1), sell(5, 6, 1))},
		{"one that came again", then(four, cancel(4, 1), place(sell(4, 5, 1), 1)), nil, orders(sell(2, 5, 3), sell(9, 5, 2), sell(1, 5, 1), sell(4, 5, 1))},
	})
}

// row are so many orders of a side, of names from 1 on, each with a worse price than the one ahead of it.
func row(many int, s api.Side, from int) []book.Order {
	var all []book.Order
	for i := range many {
		price := from + i
		if s == api.Buy {
			price = from - i
		}
		all = append(all, book.Order{i + 1, s, price, i + 1})
	}
	return all
}

// whole are the fills of orders that are filled whole.
func whole(l []book.Order) []api.Fill {
	var all []api.Fill
	for _, o := range l {
		all = append(all, gives(o.ID, o.Price, o.Left))
	}
	return all
}

// TestFull is P11.1 (B1): there is room for 8 orders, on one side or on both; ErrFull, if something would be left of one
// more; one more that is filled whole needs none, and one that fills others whole makes it.
func TestFull(t *testing.T) {
	for sells := range mostBook + 1 {
		s := row(sells, api.Sell, 100)
		b := row(mostBook-sells, api.Buy, 99)
		for i := range b {
			b[i].ID += 20
		}
		eight := acts(rests(s...), rests(b...))
		run(t, []example{
			{"eight", eight, b, s},
			{"seven", eight[:mostBook-1], b[:max(0, len(b)-1)], s[:min(sells, mostBook-1)]},
			{"one more", then(eight, place(sell(30, 100, 1), 0).fails(api.ErrFull), place(buy(30, 1, mostLeft), 0).fails(api.ErrFull), place(sell(30, mostPrice, 1), 0).fails(api.ErrFull)), b, s},
			{"room by a cancel", then(eight, cancel(eight[3].o.ID, eight[3].o.Left), eight[3], place(sell(30, 100, 1), 0).fails(api.ErrFull)), b, s},
		})
		if sells == 0 {
			continue
		}
		all := 0
		for _, o := range s {
			all += o.Left
		}
		first := gives(1, 100, 1)
		run(t, []example{
			{"filled whole, just so", then(eight, place(buy(30, 100, 1), 0, first)), b, s[1:]},
			{"filled whole, by all", then(eight, place(buy(30, 200, all), 0, whole(s)...)), b, nil},
			{"filled by the first one, and one is left", then(eight, place(buy(30, 100, 2), 1, first), place(buy(31, 1, 1), 0).fails(api.ErrFull)), slices.Concat(orders(buy(30, 100, 1)), b), s[1:]},
			{"filled by all, and one is left", then(eight, place(buy(30, 200, all+1), 1, whole(s)...)), slices.Concat(orders(buy(30, 200, 1)), b), nil},
		})
		last := s[sells-1]
		part := append(whole(s[:sells-1]), gives(last.ID, last.Price, last.Left-1))
		if last.Left == 1 {
			continue
		}
		last.Left = 1
		run(t, []example{
			{"filled whole, and something is left of the last one", then(eight, place(buy(30, 200, all-1), 0, part...)), b, orders(last)},
		})
	}
	seven := rests(row(7, api.Sell, 100)...)
	run(t, []example{
		{"seven of a side, and one of the other", acts(seven, rests(buy(30, 99, 5)), []act{place(buy(31, 99, 1), 0).fails(api.ErrFull)}), orders(buy(30, 99, 5)), row(7, api.Sell, 100)},
		{"seven of a side, and one more of it", acts(seven, rests(sell(30, 99, 5)), []act{place(sell(31, 98, 1), 0).fails(api.ErrFull)}), nil, slices.Concat(orders(sell(30, 99, 5)), row(7, api.Sell, 100))},
	})
}

// TestFullWholeOfAPart is P11.1 (B1): a full book gives a part of its first order to one that needs no room.
func TestFullWholeOfAPart(t *testing.T) {
	eight := row(mostBook, api.Sell, 100)
	eight[0].Left = 10
	left := slices.Clone(eight)
	left[0].Left = 1
	run(t, []example{
		{"twice", then(rests(eight...), place(buy(30, 100, 4), 0, gives(1, 100, 4)), place(buy(30, mostPrice, 5), 0, gives(1, 100, 5)), place(buy(30, 99, 1), 0).fails(api.ErrFull)), nil, left},
	})
}

// TestCancel is P11.1 (B2): the first one, one in the middle, the last one, of both sides; told is what was left.
func TestCancel(t *testing.T) {
	b, s := orders(buy(11, 9, 1), buy(12, 8, 2), buy(13, 8, 3), buy(14, 7, 4)), orders(sell(1, 11, 5), sell(2, 12, 6), sell(3, 12, 7))
	all := acts(rests(b...), rests(s...))
	for i, o := range b {
		run(t, []example{{"buy", then(all, cancel(o.ID, o.Left), cancel(o.ID, 0).fails(api.ErrNone)), slices.Concat(b[:i], b[i+1:]), s}})
	}
	for i, o := range s {
		run(t, []example{{"sell", then(all, cancel(o.ID, o.Left), cancel(o.ID, 0).fails(api.ErrNone)), b, slices.Concat(s[:i], s[i+1:])}})
	}
	var every []act
	for _, o := range slices.Concat(s, b) {
		every = append(every, cancel(o.ID, o.Left))
	}
	run(t, []example{
		{"every one", acts(all, every), nil, nil},
		{"of what is left", then(all, place(buy(20, 11, 2), 0, gives(1, 11, 2)), cancel(1, 3), amend(2, 9), cancel(2, 9), amend(3, 1), cancel(3, 1)), b, nil},
		{"of what was left and rests", then(all, place(buy(20, 11, 9), 4, gives(1, 11, 5)), cancel(20, 4), cancel(1, 0).fails(api.ErrNone)), b, s[1:]},
	})
}

// TestNone is P11.1 (B2): ErrNone of what doesn't rest: of no name, of one that never was, that is filled whole, that was
// filled at once, that is gone.
func TestNone(t *testing.T) {
	one := acts(rests(sell(1, 5, 2), sell(2, 6, 2)), []act{place(buy(3, 5, 2), 0, gives(1, 5, 2))}, rests(sell(4, 9, 1)), []act{cancel(4, 1)})
	for _, b := range []*book.Book{book.New(), of(t, one...)} {
		for _, id := range append(noNames(), 1, 3, 4, 5, 17, 1<<32+2, math.MaxInt) {
			do(t, b, cancel(id, 0).fails(api.ErrNone))
			for _, n := range []int{1, 2, 3, mostLeft - 1, mostLeft} {
				do(t, b, amend(id, n).fails(api.ErrNone))
			}
		}
	}
}

// TestAmendErrors is P11.1 (B2): ErrZero below 1, ErrArg above 2^20, then ErrNone; of one that rests, and of one that
// doesn't.
func TestAmendErrors(t *testing.T) {
	for _, b := range []*book.Book{book.New(), of(t, rests(buy(1, 5, 2), sell(2, 6, 3))...)} {
		for _, id := range append(noNames(), 1, 2, 3, math.MaxInt) {
			for _, n := range []int{0, -1, -2, -mostLeft, -1 << 32, -1<<32 + 1, math.MinInt, math.MinInt + 1} {
				do(t, b, amend(id, n).fails(api.ErrZero))
			}
			for _, n := range []int{mostLeft + 1, mostLeft + 2, 2 * mostLeft, 1 << 32, 1<<32 + 1, math.MaxInt} {
				do(t, b, amend(id, n).fails(api.ErrArg))
			}
		}
	}
}

// TestAmend is P11.1 (B2): to less and to the same an order stays where it is, to more it goes behind all of its price,
// and no further.
func TestAmend(t *testing.T) {
	alone := rests(buy(1, 5, 3))
	run(t, []example{
		{"alone, to less", then(alone, amend(1, 1)), orders(buy(1, 5, 1)), nil},
		{"alone, to the same", then(alone, amend(1, 3)), orders(buy(1, 5, 3)), nil},
		{"alone, to one more", then(alone, amend(1, 4)), orders(buy(1, 5, 4)), nil},
		{"alone, to the most", then(alone, amend(1, mostLeft), amend(1, mostLeft)), orders(buy(1, 5, mostLeft)), nil},
		{"alone, to more and to less", then(alone, amend(1, mostLeft), amend(1, 1), amend(1, 2)), orders(buy(1, 5, 2)), nil},
	})
	l := orders(buy(9, 6, 3), buy(1, 5, 3), buy(2, 5, 3), buy(3, 5, 3), buy(8, 4, 3))
	all := acts(rests(l...), rests(sell(20, 7, 3)))
	for i, o := range l {
		for _, n := range []int{1, 2, 3, 4, mostLeft - 1, mostLeft} {
			o.Left = n
			want := slices.Clone(l)
			want[i].Left = n
			if n > 3 && o.Price == 5 {
				want = slices.Insert(slices.Delete(want, i, i+1), 3, o)
			}
			run(t, []example{{fmt.Sprint("among others, ", o.ID, " to ", n), then(all, amend(o.ID, n)), want, orders(sell(20, 7, 3))}})
		}
	}
	run(t, []example{
		{"one behind the other", then(all, amend(1, 4), amend(2, 4), amend(1, 5), amend(3, 1)), orders(buy(9, 6, 3), buy(3, 5, 1), buy(2, 5, 4), buy(1, 5, 5), buy(8, 4, 3)), orders(sell(20, 7, 3))},
		{"less, and as much as ahead", then(all, amend(1, 2), amend(1, 3)), orders(buy(9, 6, 3), buy(2, 5, 3), buy(3, 5, 3), buy(1, 5, 3), buy(8, 4, 3)), orders(sell(20, 7, 3))},
		{"more than what is left of it", then(all, place(sell(21, 6, 3), 0, gives(9, 6, 3)), place(sell(21, 5, 2), 0, gives(1, 5, 2)), amend(1, 2)), orders(buy(2, 5, 3), buy(3, 5, 3), buy(1, 5, 2), buy(8, 4, 3)), orders(sell(20, 7, 3))},
		{"who goes first then", then(all, amend(9, 1), amend(1, 4), place(sell(21, 5, 8), 0, gives(9, 6, 1), gives(2, 5, 3), gives(3, 5, 3), gives(1, 5, 1))), orders(buy(1, 5, 3), buy(8, 4, 3)), orders(sell(20, 7, 3))},
		{"behind one that came later", acts(all, []act{amend(1, 4)}, rests(buy(30, 5, 1)), []act{amend(2, 9)}), orders(buy(9, 6, 3), buy(3, 5, 3), buy(1, 5, 4), buy(30, 5, 1), buy(2, 5, 9), buy(8, 4, 3)), orders(sell(20, 7, 3))},
	})
}

// TestAmendFull is P11.1 (B2): an amend needs no room.
func TestAmendFull(t *testing.T) {
	eight := row(mostBook, api.Buy, 100)
	eight[1].Price = 100
	b := of(t, rests(eight...)...)
	do(t, b, amend(1, mostLeft), amend(8, mostLeft), amend(2, 1), amend(2, 3))
	eight[0].Left, eight[7].Left, eight[1].Left = mostLeft, mostLeft, 3
	check(t, b, eight, nil)
}
