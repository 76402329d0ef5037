package book_test

import (
	"fmt"
	"math"
	"math/rand"
	"slices"
	"strings"
	"testing"

	"lictor/api"
	"lictor/book"
)

// told is a book by the words alone: what rests, in whatever order, each with when it came to.
type told struct {
	all  []resting
	now  int
	sums sums
}

type resting struct {
	book.Order
	since int
}

// sums are how much was placed, was filled, and was taken away.
type sums struct{ placed, filled, away int }

// ahead tells whether one is the first of two of a side.
func (r resting) ahead(x resting) bool {
	if r.Price == x.Price {
		return r.since < x.since
	}
	return (r.Price > x.Price) == (r.Side == api.Buy)
}

// side are the places of a side's orders.
func (w *told) side(s api.Side) []int {
	var places []int
	for i, r := range w.all {
		if r.Side == s {
			places = append(places, i)
		}
	}
	return places
}

// first is the place of that one of a side that no other one is ahead of; -1, if there is none.
func (w *told) first(s api.Side) int {
	first := -1
	for _, i := range w.side(s) {
		if first < 0 || w.all[i].ahead(w.all[first]) {
			first = i
		}
	}
	return first
}

func (w *told) find(id int) int {
	return slices.IndexFunc(w.all, func(r resting) bool { return r.ID == id })
}

func (w *told) drop(i int) { w.all = slices.Delete(slices.Clone(w.all), i, i+1) }

func (w *told) add(o book.Order) {
	w.now++
	w.all = append(slices.Clone(w.all), resting{o, w.now})
}

func (w *told) place(o book.Order) api.Reply {
	switch {
	case o.Left == 0:
		return api.Reply{Err: api.ErrZero}
	case o.Side != api.Buy && o.Side != api.Sell, o.ID < 1, o.Price < 1, o.Price > mostPrice, o.Left < 0, o.Left > mostLeft:
		return api.Reply{Err: api.ErrArg}
	case w.find(o.ID) >= 0:
		return api.Reply{Err: api.ErrTwice}
	}
	was := *w
	was.all = slices.Clone(w.all)
	w.sums.placed += o.Left
	against := api.Sell
	if o.Side == api.Sell {
		against = api.Buy
	}
	var fills []api.Fill
	for o.Left > 0 {
		i := w.first(against)
		if i < 0 || o.Side == api.Buy && o.Price < w.all[i].Price || o.Side == api.Sell && o.Price > w.all[i].Price {
			break
		}
		x := w.all[i]
		much := min(o.Left, x.Left)
		fills = append(fills, gives(x.ID, x.Price, much))
		w.sums.filled += much
		o.Left -= much
		w.all[i].Left -= much
		if w.all[i].Left == 0 {
			w.drop(i)
		}
	}
	if o.Left > 0 {
		if len(w.all) == mostBook {
			*w = was
			return api.Reply{Err: api.ErrFull}
		}
		w.add(o)
	}
	return api.Reply{Fills: fills, Left: o.Left}
}

func (w *told) cancel(id int) api.Reply {
	i := w.find(id)
	if i < 0 {
		return api.Reply{Err: api.ErrNone}
	}
	left := w.all[i].Left
	w.sums.away += left
	w.drop(i)
	return api.Reply{Left: left}
}

func (w *told) amend(id, n int) api.Reply {
	i := w.find(id)
	switch {
	case n < 1:
		return api.Reply{Err: api.ErrZero}
	case n > mostLeft:
		return api.Reply{Err: api.ErrArg}
	case i < 0:
		return api.Reply{Err: api.ErrNone}
	}
	o := w.all[i].Order
	if n <= o.Left {
		w.sums.away += o.Left - n
		w.all[i].Left = n
		return api.Reply{Left: n}
	}
	w.sums.placed += n - o.Left
	o.Left = n
	w.drop(i)
	w.add(o)
	return api.Reply{Left: n}
}

// orders are a side's, in order.
func (w *told) orders(s api.Side) []book.Order {
	rest := told{all: slices.Clone(w.all)}
	var l []book.Order
	for range w.side(s) {
		i := rest.first(s)
		l = append(l, rest.all[i].Order)
		rest.drop(i)
	}
	return l
}

// on does an act on what the words have.
func (w *told) on(a act) api.Reply {
	switch a.what {
	case "place":
		return w.place(a.o)
	case "cancel":
		return w.cancel(a.id)
	}
	return w.amend(a.id, a.n)
}

// step does an act on a book and by the words, and checks the one by the other, that nothing is lost, that no buy meets a
// sell, and that each fill is of the first one of its side. It tells what was told.
func step(t *testing.T, b *book.Book, w *told, a act) api.Reply {
	t.Helper()
	against := b.Orders(1 - a.o.Side)
	got, want := a.on(b), w.on(a)
	if !same(got, want) {
		t.Fatalf("%+v: %+v, not %+v", a, got, want)
	}
	buys, sells := w.orders(api.Buy), w.orders(api.Sell)
	check(t, b, buys, sells)
	for i, f := range got.Fills {
		if o := against[i]; f.Order != o.ID || f.Price != o.Price || f.Qty > o.Left || f.Qty < o.Left && (i+1 < len(got.Fills) || got.Left > 0) {
			t.Fatalf("%+v: filled by %+v, of %v", a, got.Fills, against)
		}
	}
	balanced(t, b, w.sums)
	return got
}

// balanced checks that what was placed is what rests, what was filled, twice, and what was taken away, and that no buy
// meets a sell.
func balanced(t *testing.T, b *book.Book, s sums) {
	t.Helper()
	buys, sells := b.Orders(api.Buy), b.Orders(api.Sell)
	rest := 0
	for _, o := range slices.Concat(buys, sells) {
		rest += o.Left
	}
	if s.placed != rest+2*s.filled+s.away {
		t.Fatalf("%+v, and %d rests", s, rest)
	}
	if len(buys) > 0 && len(sells) > 0 && buys[0].Price >= sells[0].Price {
		t.Fatalf("%v meets %v", buys[0], sells[0])
	}
	if len(buys)+len(sells) > mostBook {
		t.Fatalf("%d buys, %d sells", len(buys), len(sells))
	}
}

// begins are rows of acts with which a book begins.
func begins() [][]act {
	b, s := row(mostBook, api.Buy, 5), row(mostBook, api.Sell, 6)
	for i := range b {
		b[i].Price = max(b[i].Price, 3)
		s[i].Price = min(s[i].Price, 7)
		s[i].ID += mostBook
	}
	return [][]act{nil, rests(s[:2]...), rests(b[:7]...), rests(s...), acts(rests(s[:4]...), rests(b[:3]...)), acts(rests(s[:3]...), rests(b[:5]...))}
}

// TestEveryWay is P11.1 to P11.4: each row of one to four acts, on books that are empty, hold some orders, 7 and 8, by the
// words' own book. The last act alone is checked: those ahead of it are a shorter row's.
func TestEveryWay(t *testing.T) {
	l := []act{
		place(buy(20, 5, 1), 0), place(buy(21, 6, 3), 0), place(buy(22, 7, 12), 0), place(buy(1, 9, 40), 0),
		place(sell(23, 6, 1), 0), place(sell(24, 5, 4), 0), place(sell(25, 4, 12), 0), place(sell(10, 1, 40), 0),
		cancel(1, 0), cancel(9, 0), cancel(21, 0),
		amend(9, 2), amend(2, 9), amend(24, 3), amend(10, 1),
	}
	for _, begin := range begins() {
		rows := 1
		for ahead := range 4 {
			rows *= len(l)
			for number := range rows {
				b, w := of(t, begin...), &told{}
				for _, a := range begin {
					w.on(a)
				}
				for range ahead {
					a := l[number%len(l)]
					a.on(b)
					w.on(a)
					number /= len(l)
				}
				step(t, b, w, l[number])
			}
		}
	}
}

// some is any act of names up to one, of prices that are near one another.
func some(from *rand.Rand, names, prices int) act {
	id := 1 + from.Intn(names)
	switch from.Intn(8) {
	case 0:
		return cancel(id, 0)
	case 1, 2:
		return amend(id, from.Intn(12)-1)
	case 3:
		return amend(id, mostLeft+2-1<<from.Intn(21))
	}
	o := book.Order{id, api.Side(from.Intn(2)), 1 + from.Intn(prices), from.Intn(10)}
	switch from.Intn(20) {
	case 0:
		o.Left = mostLeft + 1 - from.Intn(3)
	case 1:
		o.Side = noSides()[from.Intn(len(noSides()))]
	case 2:
		o.Price += mostPrice - prices + 1
	case 3:
		o.Left = 30
	}
	return place(o, 0)
}

// TestLongWays is P11.1 to P11.4: long rows of any acts, of few and of many names and prices.
func TestLongWays(t *testing.T) {
	from := rand.New(rand.NewSource(5))
	fills, several, errs := 0, 0, map[api.Errno]int{}
	for range 300 {
		names, prices := 1+from.Intn(40), 1+from.Intn(20)>>from.Intn(4)
		b, w := book.New(), &told{}
		for range 150 {
			got := step(t, b, w, some(from, names, prices))
			errs[got.Err]++
			fills += len(got.Fills)
			if len(got.Fills) > 2 {
				several++
			}
		}
	}
	for _, err := range []api.Errno{api.OK, api.ErrArg, api.ErrFull, api.ErrNone, api.ErrTwice, api.ErrZero} {
		if errs[err] < 500 {
			t.Errorf("error %d: told %d times alone", err, errs[err])
		}
	}
	if fills < 2000 || several < 100 {
		t.Errorf("%d fills, more than two of one %d times", fills, several)
	}
}

// TestNothingIsLost is P11.2 and P11.3: by what is told alone what was placed is what rests, what was filled, twice, and
// what was taken away, however much it is.
func TestNothingIsLost(t *testing.T) {
	from := rand.New(rand.NewSource(6))
	for range 100 {
		b, s := book.New(), sums{}
		for range 200 {
			a := some(from, 30, 6)
			if a.what == "place" && a.o.Left > 0 {
				a.o.Left += from.Intn(max(1, mostLeft-a.o.Left+1))
			}
			o, _ := b.Find(a.id)
			got := a.on(b)
			for _, f := range got.Fills {
				s.filled += f.Qty
			}
			switch {
			case got.Err != api.OK:
			case a.what == "place":
				s.placed += a.o.Left
			case a.what == "cancel":
				s.away += got.Left
			default:
				s.away += max(0, o.Left-a.n)
				s.placed += max(0, a.n-o.Left)
			}
			balanced(t, b, s)
		}
	}
}

// TestOrders is P11.1 (B3): a side's orders, in order; nothing of a side that is none; who asks changes nothing.
func TestOrders(t *testing.T) {
	b := of(t, rests(sell(1, 7, 1), buy(2, 4, 2), sell(3, 6, 3), buy(4, 5, 4), sell(5, 7, 5), buy(6, 4, 6))...)
	for range 3 {
		check(t, b, orders(buy(4, 5, 4), buy(2, 4, 2), buy(6, 4, 6)), orders(sell(3, 6, 3), sell(1, 7, 1), sell(5, 7, 5)))
	}
	check(t, book.New(), nil, nil)
}

// TestFind is P11.1 (B3): the order as it is now; false, and nothing, if it doesn't rest any more.
func TestFind(t *testing.T) {
	b := of(t, rests(sell(1, 7, 3), buy(2, 4, 2))...)
	finds := func(id int, want book.Order, rests bool) {
		t.Helper()
		if got, ok := b.Find(id); got != want || ok != rests {
			t.Errorf("name %d: %v %v", id, got, ok)
		}
	}
	finds(1, sell(1, 7, 3), true)
	finds(2, buy(2, 4, 2), true)
	finds(3, book.Order{}, false)
	do(t, b, place(buy(3, 7, 2), 0, gives(1, 7, 2)))
	finds(1, sell(1, 7, 1), true)
	finds(3, book.Order{}, false)
	do(t, b, amend(2, 9))
	finds(2, buy(2, 4, 9), true)
	do(t, b, place(buy(3, 7, 2), 1, gives(1, 7, 1)))
	finds(1, book.Order{}, false)
	finds(3, buy(3, 7, 1), true)
	do(t, b, cancel(2, 9))
	finds(2, book.Order{}, false)
	finds(0, book.Order{}, false)
	finds(-1, book.Order{}, false)
}

// TestClone is P11.1 (B3): another book with the same; what happens to the one does nothing to the other.
func TestClone(t *testing.T) {
	for _, begin := range begins() {
		for _, a := range []act{place(buy(30, 6, 2), 0), place(buy(30, 7, 50), 0), place(sell(30, 4, 2), 0), place(sell(30, 1, 99), 0), place(buy(30, 1, 1), 0), place(sell(30, 9, 1), 0), cancel(1, 0), cancel(9, 0), amend(1, 7), amend(9, 7), amend(2, 1), amend(10, 1)} {
			b := of(t, begin...)
			buys, sells := b.Orders(api.Buy), b.Orders(api.Sell)
			c := b.Clone()
			if c == nil || c == b {
				t.Fatalf("%p of %p", c, b)
			}
			check(t, c, buys, sells)
			first := a.on(b)
			check(t, c, buys, sells)
			d := c.Clone()
			if second := a.on(c); !same(first, second) {
				t.Fatalf("%+v: %+v, then %+v", a, first, second)
			}
			check(t, c, b.Orders(api.Buy), b.Orders(api.Sell))
			check(t, d, buys, sells)
		}
	}
}

// TestClonesGoTheirWays is P11.1 (B3) and P2: clones of one book, each with its own acts, by the words' own books.
func TestClonesGoTheirWays(t *testing.T) {
	from := rand.New(rand.NewSource(7))
	for range 60 {
		books, words := []*book.Book{book.New()}, []*told{{}}
		for range 60 {
			i := from.Intn(len(books))
			if len(books) < 6 && from.Intn(5) == 0 {
				books = append(books, books[i].Clone())
				w := *words[i]
				w.all = slices.Clone(w.all)
				words = append(words, &w)
			}
			step(t, books[i], words[i], some(from, 20, 5))
			for k, w := range words {
				check(t, books[k], w.orders(api.Buy), w.orders(api.Sell))
			}
		}
	}
}

// TestMemory is rule 4: what is told is one's own, to its last place; two lists that are told share nothing.
func TestMemory(t *testing.T) {
	b := of(t, rests(sell(1, 7, 1), sell(2, 7, 2), sell(3, 8, 3), buy(4, 5, 4), buy(5, 5, 5))...)
	buys, sells := orders(buy(4, 5, 4), buy(5, 5, 5)), orders(sell(1, 7, 1), sell(2, 7, 2), sell(3, 8, 3))
	for _, s := range []api.Side{api.Buy, api.Sell} {
		one, two := b.Orders(s), b.Orders(s)
		clear(one)
		one = append(one, buy(9, 9, 9))
		clear(one[:cap(one)])
		check(t, b, buys, sells)
		if two[0] == (book.Order{}) {
			t.Errorf("side %d: written into by another list", s)
		}
	}
	got := b.Place(buy(6, 9, 4))
	more := b.Place(buy(7, 9, 1))
	if !same(got, api.Reply{Fills: []api.Fill{gives(1, 7, 1), gives(2, 7, 2), gives(3, 8, 1)}}) || !same(more, api.Reply{Fills: []api.Fill{gives(3, 8, 1)}}) {
		t.Fatalf("%+v, %+v", got, more)
	}
	_ = append(got.Fills, gives(9, 9, 9))
	clear(got.Fills[:cap(got.Fills)])
	if !same(more, api.Reply{Fills: []api.Fill{gives(3, 8, 1)}}) {
		t.Errorf("%+v", more)
	}
	check(t, b, buys, orders(sell(3, 8, 1)))
	told := b.Orders(api.Buy)
	do(t, b, amend(4, 9), place(sell(8, 5, 6), 0, gives(5, 5, 5), gives(4, 5, 1)), cancel(3, 1))
	if !slices.Equal(told, buys) {
		t.Errorf("told, then written into: %v", told)
	}
}

// TestNil is P1 and rule 8: on a nil book ErrArg alone, ahead of all else; nothing, false, nil.
func TestNil(t *testing.T) {
	var b *book.Book
	for _, a := range []act{
		place(buy(1, 5, 2), 0), place(sell(1, 5, 2), 0), place(buy(1, 5, 0), 0), place(book.Order{}, 0), place(buy(-1, -1, -1), 0),
		cancel(1, 0), cancel(0, 0), cancel(-1, 0), amend(1, 2), amend(1, 0), amend(0, -1), amend(1, mostLeft+1),
	} {
		if got := a.on(b); !same(got, api.Reply{Err: api.ErrArg}) {
			t.Errorf("%+v: %+v", a, got)
		}
	}
	for _, s := range append(noSides(), api.Buy, api.Sell) {
		if got := b.Orders(s); len(got) != 0 {
			t.Errorf("side %d: %v", s, got)
		}
	}
	for _, id := range append(noNames(), 1, 2, math.MaxInt) {
		if got, ok := b.Find(id); ok || got != (book.Order{}) {
			t.Errorf("name %d: %v %v", id, got, ok)
		}
	}
	if c := b.Clone(); c != nil {
		t.Errorf("a clone: %v", c)
	}
}

// TestWhateverIsAsked is P1 and P2: every call ends, at whatever it is given, and two books of one way answer the same,
// whatever other books do between.
func TestWhateverIsAsked(t *testing.T) {
	numbers := append(tooMuch(), 0, 1, 2, 3, 5, mostLeft-1, mostLeft, 1<<62, 1<<63-2)
	way := func(seed int64) string {
		from := rand.New(rand.NewSource(seed))
		one := func() int { return numbers[from.Intn(len(numbers))] }
		little := func() int { return 1 + from.Intn(5) }
		b, s := book.New(), strings.Builder{}
		if from.Intn(10) == 0 {
			b = nil
		}
		for range 60 {
			x := little
			if from.Intn(3) == 0 {
				x = one
			}
			switch from.Intn(5) {
			case 0, 1:
				fmt.Fprint(&s, b.Place(book.Order{x(), api.Side(from.Intn(2)), x(), x()}), b.Place(book.Order{x(), api.Side(x()), x(), x()}))
			case 2:
				fmt.Fprint(&s, b.Cancel(x()))
			case 3:
				fmt.Fprint(&s, b.Amend(x(), x()))
			case 4:
				b = b.Clone()
			}
			for range 2 {
				fmt.Fprint(&s, b.Orders(api.Buy), b.Orders(api.Sell), b.Orders(api.Side(one())))
				for _, id := range numbers {
					s.WriteString(fmt.Sprint(b.Find(id)))
				}
			}
		}
		return s.String()
	}
	for seed := range int64(60) {
		first := way(seed)
		way(seed + 1)
		if again := way(seed); again != first {
			t.Fatalf("%.300s, then %.300s", first, again)
		}
	}
}
