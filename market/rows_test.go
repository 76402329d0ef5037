package market_test

import (
	"fmt"
	"math"
	"math/rand"
	"slices"
	"strings"
	"testing"

	"lictor/api"
	"lictor/book"
	"lictor/cmd"
	"lictor/market"
)

// words is a market by the document's words: a book of each symbol, and what was turned over, in whole numbers.
type words struct {
	books         [symbols]*book.Book
	volume, value [symbols]int
}

func newWords() *words {
	w := &words{}
	for s := range w.books {
		w.books[s] = book.New()
	}
	return w
}

func (w *words) clone() *words {
	c := *w
	for s, b := range w.books {
		c.books[s] = b.Clone()
	}
	return &c
}

func (w *words) apply(c api.Cmd) api.Reply {
	if !cmd.Right(c) {
		return api.Reply{Err: api.ErrArg}
	}
	next := w.clone()
	b, got := next.books[c.Symbol], api.Reply{}
	switch c.Kind {
	case api.Place:
		got = b.Place(book.Order{ID: c.ID, Side: c.Side, Price: c.Price, Left: c.Qty})
	case api.Cancel:
		got = b.Cancel(c.Target)
	case api.Amend:
		got = b.Amend(c.Target, c.Qty)
	}
	for _, f := range got.Fills {
		next.volume[c.Symbol] += f.Qty
		next.value[c.Symbol] += f.Price * f.Qty
	}
	if next.volume[c.Symbol] > mostTurn || next.value[c.Symbol] > mostTurn {
		return api.Reply{Err: api.ErrOver}
	}
	*w = *next
	return got
}

// look is what is to be told of a symbol.
func (w *words) look(s int) string {
	average, over := 0, 0
	if w.volume[s] > 0 {
		average, over = w.value[s]/w.volume[s], w.value[s]%w.volume[s]
	}
	return fmt.Sprint(w.books[s].Orders(api.Buy), w.books[s].Orders(api.Sell), w.volume[s], w.value[s], average, over)
}

// step has both do a command, and checks that they tell the same of it, and behind it.
func step(t *testing.T, m *market.Market, w *words, c api.Cmd) {
	t.Helper()
	want := w.apply(c)
	if got := m.Apply(c); !same(got, want) {
		t.Fatalf("%+v: %+v, not %+v", c, got, want)
	}
	agree(t, m, w)
}

func agree(t *testing.T, m *market.Market, w *words) {
	t.Helper()
	for s := range symbols {
		if got, want := look(m, s), w.look(s); got != want {
			t.Fatalf("symbol %d: %s, not %s", s, got, want)
		}
	}
}

// some is any command of a few names, mostly one that may be; turned over is little, or much.
func some(from *rand.Rand, names int) api.Cmd {
	much := []int{0, 1, 2, 3, most / 4, most / 2, most - 1, most}
	n := func() int { return 1 + from.Intn(names) }
	price, qty := 1+from.Intn(5), 1+from.Intn(9)
	if from.Intn(3) > 0 {
		price, qty = much[from.Intn(len(much))], much[from.Intn(len(much))]
	}
	c := of(from.Intn(symbols), buy(n(), price, qty))
	switch from.Intn(8) {
	case 0, 1, 2:
		c.Side = api.Sell
	case 3:
		c = of(c.Symbol, cancel(n(), n()))
	case 4:
		c = of(c.Symbol, amend(n(), n(), qty))
	}
	if from.Intn(20) == 0 {
		l := wrong(c)
		c = l[from.Intn(len(l))]
	}
	return c
}

// TestShortRows is P12.1: all rows of up to three commands of some, on several beginnings.
func TestShortRows(t *testing.T) {
	all := []api.Cmd{
		buy(1, 5, 2), buy(2, 5, 7), buy(3, most, most), sell(1, 5, 2), sell(2, 4, 3), sell(3, 1, most), sell(4, 6, 1), buy(4, 0, 1),
		of(3, buy(1, 5, 2)), of(3, sell(2, 5, 2)), cancel(5, 1), cancel(2, 2), of(3, cancel(5, 1)), amend(5, 1, 1), amend(1, 2, most), amend(5, 2, 0),
		of(4, buy(5, 5, 5)), {ID: 17, Kind: 3},
	}
	eight := func(m *market.Market) {
		for n := 10; n < 10+mostBook; n++ {
			m.Apply(sell(n, 6, n))
		}
	}
	for _, begin := range []func(*market.Market){
		func(m *market.Market) {},
		func(m *market.Market) { turn(t, m, 0, mostTurn-20) },
		func(m *market.Market) { turn(t, m, 0, mostTurn); turn(t, m, 3, mostTurn-9) },
		eight,
		func(m *market.Market) { turn(t, m, 0, mostTurn-100); eight(m) },
	} {
		m := market.New()
		begin(m)
		w := newWords()
		for s := range symbols {
			w.volume[s], w.value[s] = m.Turnover(s)
			for _, side := range []api.Side{api.Buy, api.Sell} {
				for _, o := range m.Orders(s, side) {
					w.books[s].Place(o)
				}
			}
		}
		agree(t, m, w)
		rows(t, m, w, all, 3)
	}
}

// rows goes through all rows of so many commands.
func rows(t *testing.T, m *market.Market, w *words, all []api.Cmd, many int) {
	if many == 0 {
		return
	}
	for _, c := range all {
		n, v := m.Clone(), w.clone()
		step(t, n, v, c)
		rows(t, n, v, all, many-1)
	}
}

// TestLongRows is P12.1: long rows of any commands of all symbols.
func TestLongRows(t *testing.T) {
	from := rand.New(rand.NewSource(12))
	seen := map[api.Errno]int{}
	for range 100 {
		m, w := market.New(), newWords()
		for range 200 {
			c := some(from, 12)
			seen[w.clone().apply(c).Err]++
			step(t, m, w, c)
		}
	}
	for _, err := range []api.Errno{api.OK, api.ErrArg, api.ErrFull, api.ErrNone, api.ErrTwice, api.ErrZero, api.ErrOver} {
		if seen[err] < 50 {
			t.Errorf("error %d: seen %d times", err, seen[err])
		}
	}
}

// TestEachForItself is P12.2: what is told of a symbol is what a market tells to which its commands alone came.
func TestEachForItself(t *testing.T) {
	from := rand.New(rand.NewSource(13))
	for range 100 {
		m := market.New()
		var alone [symbols]*market.Market
		for s := range alone {
			alone[s] = market.New()
		}
		empty := look(m, 0)
		for range 200 {
			c := some(from, 12)
			ahead := lookAll(m)
			got := m.Apply(c)
			for s, a := range alone {
				if s == c.Symbol {
					if want := a.Apply(c); !same(got, want) {
						t.Fatalf("%+v: %+v, and alone %+v", c, got, want)
					}
				} else if behind := look(m, s); behind != ahead[s] {
					t.Fatalf("%+v: symbol %d changed from %s to %s", c, s, ahead[s], behind)
				}
				if behind, want := look(m, s), look(a, s); behind != want {
					t.Fatalf("%+v: symbol %d has %s, and alone %s", c, s, behind, want)
				}
			}
		}
		for s, a := range alone {
			for other := range symbols {
				if got := look(a, other); other != s && got != empty {
					t.Fatalf("symbol %d's alone has of %d: %s", s, other, got)
				}
			}
		}
	}
}

// TestAnyMixOfTwo is P12.2: two symbols' commands, mixed in every way, tell the same.
func TestAnyMixOfTwo(t *testing.T) {
	one := []api.Cmd{sell(1, 5, 2), buy(2, 6, 1), amend(3, 1, 7), buy(4, 7, 9), cancel(5, 4)}
	two := []api.Cmd{of(3, buy(1, most, most)), of(3, sell(2, 1, most)), of(3, sell(1, 1, 1)), of(3, buy(4, 1, 1)), of(3, cancel(4, 1))}
	first, ends := map[api.Cmd]string{}, map[[symbols]string]bool{}
	var mix func(m *market.Market, a, b []api.Cmd)
	mix = func(m *market.Market, a, b []api.Cmd) {
		if len(a)+len(b) == 0 {
			ends[lookAll(m)] = true
		}
		for i, l := range [][]api.Cmd{a, b} {
			if len(l) == 0 {
				continue
			}
			n, left := m.Clone(), [][]api.Cmd{a, b}
			got := fmt.Sprintf("%+v", n.Apply(l[0]))
			if want, ok := first[l[0]]; ok && got != want {
				t.Fatalf("%+v: %s, and once %s", l[0], got, want)
			}
			first[l[0]] = got
			left[i] = l[1:]
			mix(n, left[0], left[1])
		}
	}
	mix(market.New(), one, two)
	if len(ends) != 1 || len(first) != len(one)+len(two) {
		t.Errorf("%d ends, %d told: %v", len(ends), len(first), ends)
	}
}

// TestClone is P12.1 (K2): another one with the same; what happens to the one does nothing to the other, neither its
// orders nor its turnover.
func TestClone(t *testing.T) {
	begin := func() *market.Market {
		m := market.New()
		for s := range symbols {
			do(t, m, whole(of(s, sell(1, 5, 3)), of(s, buy(2, 4, 1)))...)
			do(t, m, told(of(s, buy(3, 5, 1)), 0, gives(1, 5, 1)))
		}
		return m
	}
	if a, b := begin(), begin(); lookAll(a) != lookAll(b) {
		t.Fatal("two of one beginning")
	}
	for s := range symbols {
		for _, a := range []act{
			told(of(s, sell(4, 6, 1)), 1), told(of(s, buy(4, 5, 9)), 7, gives(1, 5, 2)), told(of(s, buy(4, 5, 1)), 0, gives(1, 5, 1)), told(of(s, sell(4, 4, 1)), 0, gives(2, 4, 1)),
			told(of(s, cancel(4, 1)), 2), told(of(s, cancel(4, 2)), 1), told(of(s, amend(4, 1, 1)), 1), told(of(s, amend(4, 2, 9)), 9), fails(of(s, cancel(4, 3)), api.ErrNone),
		} {
			m := begin()
			ahead := lookAll(m)
			c := m.Clone()
			if lookAll(c) != ahead {
				t.Fatalf("a clone of %v: %v", ahead, lookAll(c))
			}
			do(t, m, a)
			behind := lookAll(m)
			if lookAll(c) != ahead {
				t.Fatalf("%+v changed the clone to %v", a, lookAll(c))
			}
			d := c.Clone()
			do(t, c, a)
			if lookAll(c) != behind || lookAll(m) != behind || lookAll(d) != ahead {
				t.Fatalf("%+v of the clone: %v, %v, %v", a, lookAll(m), lookAll(c), lookAll(d))
			}
		}
	}
}

// TestClonesGoTheirWays is P12.1 (K2) and P2: clones of one market, each with its own commands.
func TestClonesGoTheirWays(t *testing.T) {
	from := rand.New(rand.NewSource(14))
	for range 60 {
		markets, all := []*market.Market{market.New()}, []*words{newWords()}
		for range 60 {
			i := from.Intn(len(markets))
			if len(markets) < 6 && from.Intn(5) == 0 {
				markets, all = append(markets, markets[i].Clone()), append(all, all[i].clone())
			}
			step(t, markets[i], all[i], some(from, 6))
			for k, w := range all {
				agree(t, markets[k], w)
			}
		}
	}
}

// TestMemory is rule 4: what is told is one's own, to its last place; two lists that are told share nothing.
func TestMemory(t *testing.T) {
	m := made(t, whole(sell(1, 7, 1), sell(2, 7, 2), sell(3, 8, 3), buy(4, 5, 4), buy(5, 5, 5))...)
	ahead := look(m, 0)
	for _, s := range []api.Side{api.Buy, api.Sell} {
		one, two := m.Orders(0, s), m.Orders(0, s)
		kept := slices.Clone(two)
		_ = append(one, book.Order{ID: 9})
		clear(one[:cap(one)])
		if !slices.Equal(two, kept) {
			t.Errorf("side %d: written into by another list", s)
		}
		if got := look(m, 0); got != ahead {
			t.Errorf("side %d: written into: %s", s, got)
		}
	}
	before, c := m.Orders(0, api.Sell), m.Clone()
	got, more := m.Apply(buy(6, 9, 4)), m.Apply(buy(7, 9, 1))
	again := c.Apply(buy(6, 9, 4))
	behind := look(m, 0)
	_ = append(got.Fills, gives(9, 9, 9))
	clear(got.Fills[:cap(got.Fills)])
	if !same(more, api.Reply{Fills: []api.Fill{gives(3, 8, 1)}}) || !same(again, api.Reply{Fills: []api.Fill{gives(1, 7, 1), gives(2, 7, 2), gives(3, 8, 1)}}) {
		t.Errorf("%+v, %+v", more, again)
	}
	if now := look(m, 0); now != behind {
		t.Errorf("%s, then %s", behind, now)
	}
	if !slices.Equal(before, orders(rests(sell(1, 7, 1), 1), rests(sell(2, 7, 2), 2), rests(sell(3, 8, 3), 3))) {
		t.Errorf("told, then written into: %v", before)
	}
}

// TestNil is P1 and rule 8: on a nil market ErrArg alone, nothing, nil.
func TestNil(t *testing.T) {
	var m *market.Market
	for s := range symbols {
		for _, c := range []api.Cmd{buy(1, 5, 2), sell(1, 5, 0), buy(1, 0, 0), cancel(1, 2), amend(1, 2, 3), amend(1, 2, 0), {}, {ID: -1}} {
			if got := m.Apply(of(s, c)); !same(got, api.Reply{Err: api.ErrArg}) {
				t.Errorf("%+v: %+v", c, got)
			}
		}
	}
	for _, s := range append(noSymbols(), 0, 1, 2, 3) {
		nothing(t, m, s)
	}
	if c := m.Clone(); c != nil {
		t.Errorf("a clone: %v", c)
	}
}

// TestWhateverIsAsked is P1 and P2: every call ends, at whatever it is given, and two markets of one way answer the
// same, whatever other markets do between.
func TestWhateverIsAsked(t *testing.T) {
	numbers := slices.Concat(noSymbols(), []int{0, 1, 2, 3, 16, 17, 33, 16*256 + 8, 16*256 + 9, most - 1, most, most + 1, 1 << 62})
	way := func(seed int64) string {
		from := rand.New(rand.NewSource(seed))
		one := func() int { return numbers[from.Intn(len(numbers))] }
		m, s := market.New(), strings.Builder{}
		if from.Intn(10) == 0 {
			m = nil
		}
		for range 60 {
			switch from.Intn(4) {
			case 0:
				m = m.Clone()
			case 1:
				c := api.Cmd{ID: one(), Kind: api.Kind(one()), Symbol: one(), Target: one(), Side: api.Side(one()), Price: one(), Qty: one()}
				fmt.Fprint(&s, m.Apply(c))
			default:
				fmt.Fprint(&s, m.Apply(some(from, 5)))
			}
			for _, x := range numbers {
				fmt.Fprint(&s, m.Orders(x, api.Side(one())))
				s.WriteString(fmt.Sprint(m.Turnover(x)) + fmt.Sprint(m.Average(x)))
			}
			s.WriteString(look(m, from.Intn(symbols)))
		}
		return s.String()
	}
	for seed := range int64(60) {
		first := way(seed)
		way(seed + 1)
		if again := way(seed); again != first {
			t.Fatalf("%.300s, then %.300s", first, again)
		}
	}
	if got := market.New().Apply(api.Cmd{ID: math.MaxInt, Symbol: math.MinInt}); !same(got, api.Reply{Err: api.ErrArg}) {
		t.Errorf("%+v", got)
	}
}
