package cmd_test

import (
	"fmt"
	"math"
	"regexp"
	"slices"
	"strconv"
	"strings"
	"testing"

	"lictor/api"
	"lictor/cmd"
)

const (
	most = 1 << 20
	last = 16*256 + 8 // the greatest name
)

// place, cancel and amend are commands as short as their texts.
func place(id, symbol int, side api.Side, price, qty int) api.Cmd {
	return api.Cmd{ID: id, Kind: api.Place, Symbol: symbol, Side: side, Price: price, Qty: qty}
}

func cancel(id, symbol, target int) api.Cmd {
	return api.Cmd{ID: id, Kind: api.Cancel, Symbol: symbol, Target: target}
}

func amend(id, symbol, target, qty int) api.Cmd {
	return api.Cmd{ID: id, Kind: api.Amend, Symbol: symbol, Target: target, Qty: qty}
}

// odd are numbers at which each call is asked: the edges of all that it looks at, and numbers far out.
func odd() []int {
	l := []int{math.MinInt, math.MinInt + 1, math.MaxInt - 15, math.MaxInt - 1, math.MaxInt}
	for _, e := range []int{0, 16, 24, 32, 256, 4096, 4104, 4112, 1 << 20, 1 << 32, 1<<32 + 16, 1 << 40} {
		for d := -2; d <= 2; d++ {
			l = append(l, e+d)
		}
	}
	for x := -9; x <= 12; x++ {
		l = append(l, x)
	}
	slices.Sort(l)
	return slices.Compact(l)
}

// TestName is P2.1 (C1): all names, and the parts that they were made of, each another one.
func TestName(t *testing.T) {
	names := map[int][2]int{}
	for seq := 1; seq <= 256; seq++ {
		for home := 0; home <= 8; home++ {
			id, err := cmd.Name(seq, home)
			if id != 16*seq+home || err != api.OK {
				t.Errorf("Name(%d, %d): %d %d", seq, home, id, err)
			}
			names[id] = [2]int{seq, home}
		}
	}
	if len(names) != 256*9 || names[16] != [2]int{1, 0} || names[last] != [2]int{256, 8} {
		t.Errorf("%d names", len(names))
	}
	ask := odd()
	for id := -50; id < last+50; id++ {
		ask = append(ask, id)
	}
	for _, id := range ask {
		want, ok := names[id]
		if !ok {
			want = [2]int{0, -1}
		}
		if cmd.Seq(id) != want[0] || cmd.Home(id) != want[1] {
			t.Errorf("%d: %d %d, not %d", id, cmd.Seq(id), cmd.Home(id), want)
		}
	}
}

// TestNoName is P2.1 (C1): numbers of which there is no name.
func TestNoName(t *testing.T) {
	for _, seq := range odd() {
		for _, home := range odd() {
			id, err := cmd.Name(seq, home)
			if 1 <= seq && seq <= 256 && 0 <= home && home <= 8 {
				if id != 16*seq+home || err != api.OK {
					t.Errorf("Name(%d, %d): %d %d", seq, home, id, err)
				}
			} else if id != 0 || err != api.ErrArg {
				t.Errorf("Name(%d, %d): %d %d", seq, home, id, err)
			}
		}
	}
}

// good are commands that may be, with their texts: ordinary ones, and all edges.
func good() map[string]api.Cmd {
	return map[string]api.Cmd{
		"17 place 0 buy 5 2":                place(17, 0, api.Buy, 5, 2),
		"33 place 3 sell 6 1":               place(33, 3, api.Sell, 6, 1),
		"16 place 0 buy 0 0":                place(16, 0, api.Buy, 0, 0),
		"4104 place 3 sell 1048576 1048576": place(last, 3, api.Sell, most, most),
		"24 place 1 sell 1048575 10":        place(24, 1, api.Sell, most-1, 10),
		"17 cancel 2 33":                    cancel(17, 2, 33),
		"16 cancel 0 16":                    cancel(16, 0, 16),
		"4104 cancel 3 4104":                cancel(last, 3, last),
		"17 amend 2 33 7":                   amend(17, 2, 33, 7),
		"16 amend 0 16 0":                   amend(16, 0, 16, 0),
		"4104 amend 3 4104 1048576":         amend(last, 3, last, most),
		"1600 amend 1 24 100":               amend(1600, 1, 24, 100),
		"4096 place 2 buy 1000000 100000":   place(4096, 2, api.Buy, 1000000, 100000),
		"100 place 2 buy 10 1048576":        place(100, 2, api.Buy, 10, most),
		"101 place 2 buy 1048576 10":        place(101, 2, api.Buy, most, 10),
		"102 cancel 1 4096":                 cancel(102, 1, 4096),
		"103 place 1 sell 0 1":              place(103, 1, api.Sell, 0, 1),
		"104 place 1 sell 1 0":              place(104, 1, api.Sell, 1, 0),
	}
}

// bad are commands that may not be: each one is a good one but for one part.
func bad() []api.Cmd {
	return []api.Cmd{
		{}, {ID: 16, Kind: 1}, {ID: 16, Kind: 2},
		place(0, 0, api.Buy, 5, 2), place(15, 0, api.Buy, 5, 2), place(25, 0, api.Buy, 5, 2), place(31, 0, api.Buy, 5, 2),
		place(last+1, 0, api.Buy, 5, 2), place(4112, 0, api.Buy, 5, 2), place(-17, 0, api.Buy, 5, 2), place(1<<32+17, 0, api.Buy, 5, 2),
		place(17, -1, api.Buy, 5, 2), place(17, 4, api.Buy, 5, 2), place(17, math.MaxInt, api.Buy, 5, 2),
		place(17, 0, -1, 5, 2), place(17, 0, 2, 5, 2), place(17, 0, math.MinInt, 5, 2), place(17, 0, 1<<32, 5, 2),
		place(17, 0, api.Sell, -1, 2), place(17, 0, api.Sell, most+1, 2), place(17, 0, api.Sell, math.MaxInt, 2),
		place(17, 0, api.Sell, 5, -1), place(17, 0, api.Sell, 5, most+1), place(17, 0, api.Sell, 5, math.MinInt),
		{ID: 17, Kind: api.Place, Target: 33, Price: 5, Qty: 2}, {ID: 17, Kind: api.Place, Target: 1, Price: 5, Qty: 2}, {ID: 17, Kind: api.Place, Target: -1},
		cancel(0, 2, 33), cancel(25, 2, 33), cancel(17, 4, 33), cancel(17, -1, 33),
		cancel(17, 2, 0), cancel(17, 2, 15), cancel(17, 2, 25), cancel(17, 2, -33), cancel(17, 2, last+1), cancel(17, 2, math.MaxInt),
		{ID: 17, Kind: api.Cancel, Target: 33, Side: api.Sell}, {ID: 17, Kind: api.Cancel, Target: 33, Side: -1},
		{ID: 17, Kind: api.Cancel, Target: 33, Price: 1}, {ID: 17, Kind: api.Cancel, Target: 33, Price: -1},
		{ID: 17, Kind: api.Cancel, Target: 33, Qty: 1}, {ID: 17, Kind: api.Cancel, Target: 33, Qty: -1},
		amend(0, 2, 33, 7), amend(25, 2, 33, 7), amend(17, 4, 33, 7), amend(17, -1, 33, 7),
		amend(17, 2, 0, 7), amend(17, 2, 15, 7), amend(17, 2, 26, 7), amend(17, 2, last+1, 7),
		amend(17, 2, 33, -1), amend(17, 2, 33, most+1), amend(17, 2, 33, math.MaxInt),
		{ID: 17, Kind: api.Amend, Target: 33, Side: api.Sell, Qty: 7}, {ID: 17, Kind: api.Amend, Target: 33, Side: -1, Qty: 7},
		{ID: 17, Kind: api.Amend, Target: 33, Price: 1, Qty: 7}, {ID: 17, Kind: api.Amend, Target: 33, Price: -1, Qty: 7},
		{ID: 17, Kind: 3, Target: 33}, {ID: 17, Kind: 3}, {ID: 17, Kind: -1}, {ID: 17, Kind: -1, Target: 33}, {ID: 17, Kind: math.MaxInt}, {ID: 17, Kind: math.MinInt},
	}
}

// TestRight is P2.1 (C1): which commands may be, one by one, none, and several, of which one may not.
func TestRight(t *testing.T) {
	var all []api.Cmd
	for text, c := range good() {
		if !cmd.Right(c) {
			t.Errorf("%s: may not be", text)
		}
		all = append(all, c, c)
	}
	if !cmd.Right() || !cmd.Right(nil...) || !cmd.Right([]api.Cmd{}...) {
		t.Error("none: may not be")
	}
	if !cmd.Right(all...) {
		t.Error("all: may not be")
	}
	for _, c := range bad() {
		if cmd.Right(c) {
			t.Errorf("%v: may be", c)
		}
		for i := range all {
			l := slices.Clone(all)
			l[i] = c
			kept := slices.Clone(l)
			if cmd.Right(l...) {
				t.Errorf("%v: may be, at %d of %d", c, i, len(l))
			}
			if !slices.Equal(l, kept) {
				t.Fatalf("%v: written into", c)
			}
		}
	}
}

// mayBe is the words' own: whether a command may be.
func mayBe(c api.Cmd) bool {
	name := func(id int) bool { return 1 <= id/16 && id/16 <= 256 && 0 <= id%16 && id%16 <= 8 }
	upTo := func(x int) bool { return 0 <= x && x <= 1048576 }
	if !name(c.ID) || c.Symbol < 0 || c.Symbol > 3 {
		return false
	}
	switch c.Kind {
	case 0:
		return c.Target == 0 && (c.Side == 0 || c.Side == 1) && upTo(c.Price) && upTo(c.Qty)
	case 1:
		return name(c.Target) && c.Side == 0 && c.Price == 0 && c.Qty == 0
	case 2:
		return name(c.Target) && c.Side == 0 && c.Price == 0 && upTo(c.Qty)
	}
	return false
}

// anyCmds are commands of all parts, those that may be and many that may not.
func anyCmds() []api.Cmd {
	var l []api.Cmd
	for _, id := range []int{-16, 0, 15, 16, 24, 25, last, last + 1} {
		for kind := api.Kind(-1); kind <= 3; kind++ {
			for _, symbol := range []int{-1, 0, 3, 4} {
				for _, target := range []int{-16, 0, 1, 16, 25, last, last + 1} {
					for side := api.Side(-1); side <= 2; side++ {
						for _, price := range []int{-1, 0, 1, most, most + 1} {
							for _, qty := range []int{-1, 0, 1, most, most + 1} {
								l = append(l, api.Cmd{ID: id, Kind: kind, Symbol: symbol, Target: target, Side: side, Price: price, Qty: qty})
							}
						}
					}
				}
			}
		}
	}
	return l
}

// TestAny is P2.1 and P2.2: of any command, whether it may be; its text, and back; ErrArg and none, if it may not be.
func TestAny(t *testing.T) {
	texts := map[string]api.Cmd{}
	for _, c := range anyCmds() {
		want := mayBe(c)
		if cmd.Right(c) != want {
			t.Fatalf("Right(%v): not %t", c, want)
		}
		s, err := cmd.Print(c)
		if !want {
			if s != "" || err != api.ErrArg {
				t.Fatalf("Print(%v): %q %d", c, s, err)
			}
			continue
		}
		if other, ok := texts[s]; ok || err != api.OK {
			t.Fatalf("Print(%v): %q %d; of %v too", c, s, err, other)
		}
		texts[s] = c
		if back, err := cmd.Parse(s); back != c || err != api.OK {
			t.Fatalf("Parse(%q): %v %d, not %v", s, back, err, c)
		}
	}
	// 3 names, 2 symbols: 18 places (2 sides, 3 prices, 3 quantities), 2 cancels and 6 amends of 2 targets.
	if len(texts) != 3*2*(18+2+6) {
		t.Errorf("%d texts", len(texts))
	}
}

// TestConflict is P2.1 (C1): of one symbol, with two names, whatever else they have.
func TestConflict(t *testing.T) {
	for _, x := range []struct {
		a, b api.Cmd
		want bool
	}{
		{place(17, 0, api.Buy, 5, 2), place(33, 0, api.Sell, 6, 1), true},
		{place(17, 0, api.Buy, 5, 2), place(33, 0, api.Buy, 5, 2), true},
		{place(17, 0, api.Buy, 5, 2), place(33, 1, api.Buy, 5, 2), false},
		{place(17, 3, api.Buy, 5, 2), place(18, 3, api.Buy, 5, 2), true},
		{place(17, 0, api.Buy, 5, 2), place(17, 0, api.Buy, 5, 2), false},
		{place(17, 0, api.Buy, 5, 2), place(17, 0, api.Sell, 9, 9), false},
		{place(17, 0, api.Buy, 5, 2), place(17, 1, api.Buy, 5, 2), false},
		{place(17, 2, api.Buy, 5, 2), cancel(33, 2, 17), true},
		{cancel(33, 2, 17), amend(49, 2, 33, 0), true},
		{cancel(33, 2, 17), amend(49, 3, 33, 0), false},
		{cancel(33, 2, 17), cancel(33, 2, 49), false},
	} {
		if cmd.Conflict(x.a, x.b) != x.want || cmd.Conflict(x.b, x.a) != x.want {
			t.Errorf("%v and %v: not %t", x.a, x.b, x.want)
		}
	}
}

// TestText is P2.1 (C2) and P2.2: texts as they are written.
func TestText(t *testing.T) {
	for text, c := range good() {
		if s, err := cmd.Print(c); s != text || err != api.OK {
			t.Errorf("Print(%v): %q %d, not %q", c, s, err, text)
		}
		if got, err := cmd.Parse(text); got != c || err != api.OK {
			t.Errorf("Parse(%q): %v %d, not %v", text, got, err, c)
		}
	}
	for _, c := range bad() {
		if s, err := cmd.Print(c); s != "" || err != api.ErrArg {
			t.Errorf("Print(%v): %q %d", c, s, err)
		}
	}
}

// TestNoText is P2.1 (C2): texts that are none's.
func TestNoText(t *testing.T) {
	for _, s := range []string{
		"", " ", "  ", "17", "place", "buy", "17 place", "17 place 0", "17 place 0 buy", "17 place 0 buy 5", "17 place 0 buy 5 ",
		"17 place 0 buy 5 2 ", " 17 place 0 buy 5 2", "17  place 0 buy 5 2", "17 place  0 buy 5 2", "17 place 0  buy 5 2", "17 place 0 buy  5 2", "17 place 0 buy 5  2", "17 place 0 buy 5 2  ",
		"17 place 0 buy 5 2 1", "17 place 0 buy 5 2 sell", "17 place 0 buy 5 2 18 place 0 buy 5 2",
		"17 cancel", "17 cancel 2", "17 cancel 2 ", "17 cancel 2 33 ", "17 cancel 2 33 0", "17 cancel 2 buy 33", "17 cancel 33", "17 cancel 2 33 7", "17 cancel 2 buy 5 2", "17 cancel 2 33 buy 0 0",
		"17 amend", "17 amend 2", "17 amend 2 33", "17 amend 2 33 ", "17 amend 2 33 7 ", "17 amend 2 33 7 0", "17 amend 2 33 buy 5 7", "17 amend 2 7",
		"place 0 buy 5 2", "cancel 2 33", "amend 2 33 7", "17 0 buy 5 2", "17 2 33", "place 17 0 buy 5 2", "17 place buy 0 5 2", "17 place 0 5 2", "17 place 0 5 buy 2", "17 place 0 5 2 buy",
		"17 Place 0 buy 5 2", "17 PLACE 0 buy 5 2", "17 plac 0 buy 5 2", "17 placed 0 buy 5 2", "17 0 0 buy 5 2", "17  0 buy 5 2", "17 hold 0 buy 5 2", "17 buy 0 buy 5 2", "17 place 0 place 5 2",
		"17 place 0 Buy 5 2", "17 place 0 bu 5 2", "17 place 0 buys 5 2", "17 place 0 SELL 5 2", "17 place 0 0 5 2", "17 place 0 1 5 2", "17 place 0  5 2", "17 place 0 cancel 5 2",
		"017 place 0 buy 5 2", "17 place 00 buy 5 2", "17 place 01 buy 5 2", "17 place 0 buy 05 2", "17 place 0 buy 5 02", "17 place 0 buy 00 2", "17 place 0 buy 5 00", "17 cancel 2 033", "17 cancel 02 33", "17 amend 2 033 7", "17 amend 2 33 07", "17 amend 2 33 00",
		"+17 place 0 buy 5 2", "17 place +0 buy 5 2", "17 place -0 buy 5 2", "17 place 0 buy +5 2", "17 place 0 buy 5 +2", "17 place 0 buy -0 2", "17 place 0 buy 5 -0", "17 place 0 buy -5 2", "17 place 0 buy 5 -2", "-17 place 0 buy 5 2", "17 cancel 2 -33", "17 place -1 buy 5 2",
		"0 place 0 buy 5 2", "15 place 0 buy 5 2", "25 place 0 buy 5 2", "4105 place 0 buy 5 2", "4112 place 0 buy 5 2", "17 place 4 buy 5 2", "17 place 10 buy 5 2", "17 place 0 buy 1048577 2", "17 place 0 buy 5 1048577", "17 place 0 buy 10485760 2",
		"17 cancel 2 0", "17 cancel 2 15", "17 cancel 2 25", "17 cancel 2 4105", "17 cancel 4 33", "25 cancel 2 33", "17 amend 2 0 7", "17 amend 2 25 7", "17 amend 2 33 1048577", "17 amend 4 33 7",
		"17 place 0 buy 9223372036854775807 2", "17 place 0 buy 9223372036854775808 2", "17 place 0 buy 18446744073709551616 2", "17 place 0 buy 18446744073709551621 2", "17 place 0 buy 5 18446744073709551618", "18446744073709551633 place 0 buy 5 2", "4294967313 place 0 buy 5 2", "17 cancel 2 18446744073709551649", "17 place 18446744073709551616 buy 5 2",
		"17\tplace 0 buy 5 2", "17\nplace 0 buy 5 2", "17 place 0 buy 5 2\n", "\n17 place 0 buy 5 2", "17\u00a0place 0 buy 5 2", "17 place 0 buy 5 2\x00", "17 place 0 buy 5 \uff12", "17 place 0 buy 5 \u0662", "17 place 0 buy 5 2\xff", "\xff",
		"0x11 place 0 buy 5 2", "17 place 0 buy 5 0x2", "1_7 place 0 buy 5 2", "17 place 0 buy 1_0 2", "17 place 0 buy 5.0 2", "17 place 0 buy 5e0 2", "17 place 0 buy five 2", "17, place 0 buy 5 2", "17 place 0 buy 0b1 2", "17 place 0 buy 0o5 2",
		strings.Repeat(" ", 100000), strings.Repeat("17 ", 100000), "17 place 0 buy 5 " + strings.Repeat("2", 100000), "17 place 0 buy 5 " + strings.Repeat("0", 100000), strings.Repeat("0", 100000) + "17 place 0 buy 5 2",
	} {
		if c, err := cmd.Parse(s); c != (api.Cmd{}) || err != api.ErrForm {
			t.Errorf("Parse(%.60q): %v %d", s, c, err)
		}
	}
}

// form is what texts look like, but for the numbers' bounds.
var form = regexp.MustCompile(`^(0|[1-9][0-9]*) (?:(place) (0|[1-9][0-9]*) (buy|sell) (0|[1-9][0-9]*) (0|[1-9][0-9]*)|(cancel) (0|[1-9][0-9]*) (0|[1-9][0-9]*)|(amend) (0|[1-9][0-9]*) (0|[1-9][0-9]*) (0|[1-9][0-9]*))$`)

// isText is the words' own: whether a text is that of a command that may be.
func isText(s string) bool {
	m := form.FindStringSubmatch(s)
	if m == nil {
		return false
	}
	n := func(i int) int {
		x, err := strconv.Atoi(m[i])
		if err != nil {
			return -1
		}
		return x
	}
	side := api.Buy
	if m[4] == "sell" {
		side = api.Sell
	}
	switch {
	case m[2] != "":
		return mayBe(place(n(1), n(3), side, n(5), n(6)))
	case m[7] != "":
		return mayBe(cancel(n(1), n(8), n(9)))
	}
	return mayBe(amend(n(1), n(11), n(12), n(13)))
}

// near are all texts that have one byte more, less, or changed, or two words swapped, or one left out or doubled.
func near(s string) []string {
	var l []string
	for i := range len(s) + 1 {
		for _, b := range "\x00\t\n +-,.0123456789:_abceilmnpsuyBPx\x7f\u0080" {
			l = append(l, s[:i]+string(b)+s[i:])
			if i < len(s) {
				l = append(l, s[:i]+string(b)+s[i+1:])
			}
		}
		if i < len(s) {
			l = append(l, s[:i]+s[i+1:], s[:i], s[i:])
		}
	}
	words := strings.Split(s, " ")
	for i := range words {
		l = append(l, strings.Join(slices.Delete(slices.Clone(words), i, i+1), " "))
		for _, more := range []string{"", "0", "1", "16", "place", "cancel", "amend", "buy", "sell", words[i]} {
			l = append(l, strings.Join(slices.Insert(slices.Clone(words), i, more), " "))
			other := slices.Clone(words)
			other[i] = more
			l = append(l, strings.Join(other, " "))
		}
		for j := range i {
			other := slices.Clone(words)
			other[i], other[j] = other[j], other[i]
			l = append(l, strings.Join(other, " "))
		}
	}
	return l
}

// TestNearTexts is P2.1 (C2) and P2.2: of all texts near those of commands, which are texts; what is parsed has them.
func TestNearTexts(t *testing.T) {
	texts, others := 0, 0
	for text := range good() {
		for _, s := range near(text) {
			c, err := cmd.Parse(s)
			if !isText(s) {
				others++
				if c != (api.Cmd{}) || err != api.ErrForm {
					t.Fatalf("Parse(%q): %v %d", s, c, err)
				}
				continue
			}
			texts++
			if back, wrong := cmd.Print(c); back != s || err != api.OK || wrong != api.OK || !cmd.Right(c) {
				t.Fatalf("Parse(%q): %v %d, printed %q %d", s, c, err, back, wrong)
			}
		}
	}
	if texts < 500 || others < 5000 {
		t.Errorf("%d texts and %d others: too few to tell", texts, others)
	}
}

// TestAllNames is P2.2: there and back with each name, as a command's and as a target.
func TestAllNames(t *testing.T) {
	for seq := 1; seq <= 256; seq++ {
		for home := 0; home <= 8; home++ {
			id, _ := cmd.Name(seq, home)
			target, _ := cmd.Name(257-seq, 8-home)
			for text, c := range map[string]api.Cmd{
				fmt.Sprintf("%d place %d buy %d %d", id, id%4, seq, home):    place(id, id%4, api.Buy, seq, home),
				fmt.Sprintf("%d cancel %d %d", id, id%4, target):             cancel(id, id%4, target),
				fmt.Sprintf("%d amend %d %d %d", id, id%4, target, seq*4096): amend(id, id%4, target, seq*4096),
			} {
				s, err := cmd.Print(c)
				back, wrong := cmd.Parse(s)
				if s != text || err != api.OK || back != c || wrong != api.OK {
					t.Fatalf("%v: %q %d, %v %d", c, s, err, back, wrong)
				}
			}
		}
	}
}

// TestWhateverIsAsked is P1 and P2: every call ends, at whatever it is given, and answers the same when it is asked
// again, with others asked between.
func TestWhateverIsAsked(t *testing.T) {
	answers := func(a, b int) string {
		c := api.Cmd{ID: a, Kind: api.Kind(b), Symbol: b, Target: a, Side: api.Side(b), Price: b, Qty: a}
		d := api.Cmd{ID: b, Kind: api.Kind(a), Symbol: a, Target: b, Side: api.Side(a), Price: a, Qty: b}
		id, err := cmd.Name(a, b)
		s, wrong := cmd.Print(c)
		p, none := cmd.Parse(fmt.Sprint(a, " place ", b, " sell ", b, " ", a))
		return fmt.Sprint(id, err, cmd.Seq(a), cmd.Home(b), cmd.Right(c, d), cmd.Right(d), cmd.Conflict(c, d), s, wrong, p, none)
	}
	first := map[[2]int]string{}
	for _, a := range odd() {
		for _, b := range odd() {
			first[[2]int{a, b}] = answers(a, b)
		}
	}
	for x, want := range first {
		if got := answers(x[0], x[1]); got != want {
			t.Fatalf("%v: %s, then %s", x, want, got)
		}
	}
}

// FuzzParse is P1, P2.1 and P2.2, at any bytes.
func FuzzParse(f *testing.F) {
	for text := range good() {
		f.Add(text)
	}
	f.Fuzz(func(t *testing.T, s string) {
		c, err := cmd.Parse(s)
		if !isText(s) {
			if c != (api.Cmd{}) || err != api.ErrForm {
				t.Fatalf("Parse(%q): %v %d", s, c, err)
			}
			return
		}
		if back, wrong := cmd.Print(c); back != s || err != api.OK || wrong != api.OK {
			t.Fatalf("Parse(%q): %v %d, printed %q %d", s, c, err, back, wrong)
		}
	})
}
