package preds_test

import (
	"fmt"
	"math"
	"math/rand"
	"slices"
	"testing"

	"lictor/api"
	"lictor/cmd"
	"lictor/preds"
)

const (
	mostPreds = 1024
	allNames  = 256 * 9
	lastName  = 16*256 + 8
)

// place, cancel and amend are commands as short as can be.
func place(id, price int) api.Cmd {
	return api.Cmd{ID: id, Kind: api.Place, Symbol: 1, Side: api.Sell, Price: price, Qty: 7}
}

func cancel(id, target int) api.Cmd { return api.Cmd{ID: id, Kind: api.Cancel, Target: target} }

func amend(id, target, qty int) api.Cmd {
	return api.Cmd{ID: id, Kind: api.Amend, Symbol: 3, Target: target, Qty: qty}
}

// first are commands of the first n names, rising.
func first(n int) []api.Cmd {
	var l []api.Cmd
	for id := 16; len(l) < n; id++ {
		if id%16 <= 8 {
			l = append(l, place(id, id%100))
		}
	}
	return l
}

// bad are commands that may not be, for each of the parts.
func bad() []api.Cmd {
	return []api.Cmd{
		{}, {ID: 15}, {ID: 25}, {ID: -17}, {ID: lastName + 1}, {ID: math.MinInt}, {ID: math.MaxInt},
		{ID: 17, Kind: 3}, {ID: 17, Kind: -1}, {ID: 17, Symbol: 4}, {ID: 17, Symbol: -1}, {ID: 17, Target: 33}, {ID: 17, Side: 2},
		{ID: 17, Price: 1<<20 + 1}, {ID: 17, Price: -1}, {ID: 17, Qty: 1<<20 + 1}, {ID: 17, Qty: -1},
		{ID: 17, Kind: api.Cancel}, {ID: 17, Kind: api.Cancel, Target: 25}, {ID: 17, Kind: api.Cancel, Target: 33, Qty: 1},
		{ID: 17, Kind: api.Amend}, {ID: 17, Kind: api.Amend, Target: 33, Price: 1}, {ID: 17, Kind: api.Amend, Target: 33, Qty: -1},
	}
}

// mixed is a list mixed anew, the same way each time.
func mixed(seed int64, l []api.Cmd) []api.Cmd {
	l = slices.Clone(l)
	rand.New(rand.NewSource(seed)).Shuffle(len(l), func(i, j int) { l[i], l[j] = l[j], l[i] })
	return l
}

// isSet is the words' own: whether commands are a set.
func isSet(l []api.Cmd) bool {
	for i, c := range l {
		if !cmd.Right(c) || i > 0 && l[i-1].ID >= c.ID {
			return false
		}
	}
	return len(l) <= mostPreds
}

// setOf is the words' own: the set of commands, gone through by all names there can be.
func setOf(l []api.Cmd) ([]api.Cmd, api.Errno) {
	var set []api.Cmd
	for _, c := range l {
		if !cmd.Right(c) {
			return nil, api.ErrArg
		}
	}
	for id := 16; id <= lastName; id++ {
		var of []api.Cmd
		for _, c := range l {
			if c.ID == id {
				of = append(of, c)
			}
		}
		for _, c := range of {
			if c != of[0] {
				return nil, api.ErrTwice
			}
		}
		if len(of) > 0 {
			set = append(set, of[0])
		}
	}
	if len(set) > mostPreds {
		return nil, api.ErrFull
	}
	return set, api.OK
}

// without is the words' own: those of a whose names stand not in b.
func without(a, b []api.Cmd) []api.Cmd {
	var l []api.Cmd
	for _, c := range a {
		if !slices.ContainsFunc(b, func(d api.Cmd) bool { return d.ID == c.ID }) {
			l = append(l, c)
		}
	}
	return l
}

// lists are all lists of up to three of six commands: a third one's name has two, another one may not be.
func lists() [][]api.Cmd {
	of := []api.Cmd{place(16, 5), cancel(17, 16), amend(33, 16, 2), cancel(33, 17), place(lastName, 1), place(25, 1)}
	all := [][]api.Cmd{nil, {}}
	for _, a := range of {
		all = append(all, []api.Cmd{a})
		for _, b := range of {
			all = append(all, []api.Cmd{a, b})
			for _, c := range of {
				all = append(all, []api.Cmd{a, b, c})
			}
		}
	}
	return all
}

// same tells whether an answer is the one that is wanted, and nil, if it has nothing.
func same(got, want []api.Cmd) bool { return slices.Equal(got, want) && (len(want) > 0 || got == nil) }

// TestRight is P3.1: ordinary sets, and the edges: none, 1024, one more, names that rise not.
func TestRight(t *testing.T) {
	a, b, c := place(17, 5), cancel(33, 17), amend(34, 17, 1)
	for _, l := range [][]api.Cmd{nil, {}, {a}, {b}, {a, b}, {a, c}, {b, c}, {a, b, c}, {place(16, 0), place(lastName, 0)}, first(2), first(mostPreds - 1), first(mostPreds), first(allNames)[allNames-mostPreds:]} {
		if !preds.Right(l) {
			t.Errorf("%d commands from %v on: no set", len(l), l)
		}
	}
	for _, l := range [][]api.Cmd{{b, a}, {a, a}, {a, b, b}, {b, cancel(33, 16)}, {cancel(33, 16), b}, {a, c, b}, {c, b, a}, {b, a, c}, first(mostPreds + 1), first(allNames)} {
		if preds.Right(l) {
			t.Errorf("%d commands from %v on: a set", len(l), l[:2])
		}
	}
	full := first(mostPreds)
	for i := 1; i < len(full); i++ {
		l := slices.Clone(full)
		l[i-1], l[i] = l[i], l[i-1]
		doubled := slices.Clone(full)
		doubled[i] = doubled[i-1]
		if preds.Right(l) || preds.Right(doubled) {
			t.Fatalf("two of 1024 swapped, or doubled, at %d: a set", i)
		}
	}
}

// TestNotRight is P3.1: with a command that may not be no list is a set, nor has one, wherever it stands.
func TestNotRight(t *testing.T) {
	for _, c := range bad() {
		good := []api.Cmd{place(16, 5), cancel(33, 16), place(lastName, 5)}
		for i := range len(good) + 1 {
			l := slices.Insert(slices.Clone(good), i, c)
			if preds.Right(l) || preds.Right([]api.Cmd{c}) {
				t.Errorf("%v at %d: a set", c, i)
			}
			if s, err := preds.Of(l...); s != nil || err != api.ErrArg {
				t.Errorf("Of, %v at %d: %v %d", c, i, s, err)
			}
			if s, err := preds.Union(l[:i], l[i:], nil); s != nil || err != api.ErrArg {
				t.Errorf("Union, %v at %d: %v %d", c, i, s, err)
			}
		}
	}
}

// TestOf is P3.1: ordinary commands, none, the same one twice, and one name with two.
func TestOf(t *testing.T) {
	a, b, c := place(17, 5), cancel(33, 17), amend(34, 17, 1)
	for _, x := range []struct{ of, want []api.Cmd }{
		{nil, nil}, {[]api.Cmd{}, nil}, {[]api.Cmd{a}, []api.Cmd{a}}, {[]api.Cmd{a, b}, []api.Cmd{a, b}}, {[]api.Cmd{b, a}, []api.Cmd{a, b}},
		{[]api.Cmd{c, a, b}, []api.Cmd{a, b, c}}, {[]api.Cmd{a, a}, []api.Cmd{a}}, {[]api.Cmd{c, b, c, a, b, c}, []api.Cmd{a, b, c}},
	} {
		if s, err := preds.Of(x.of...); !same(s, x.want) || err != api.OK {
			t.Errorf("Of(%v): %v %d", x.of, s, err)
		}
	}
	if s, err := preds.Of(); s != nil || err != api.OK {
		t.Errorf("Of(): %v %d", s, err)
	}
	// Each has the name of b, and differs in one part, or in all.
	for _, d := range []api.Cmd{cancel(33, 18), {ID: 33, Kind: api.Cancel, Symbol: 1, Target: 17}, amend(33, 17, 0), {ID: 33, Kind: api.Amend, Target: 17}, place(33, 5), {ID: 33}} {
		for _, l := range [][]api.Cmd{{b, d}, {d, b}, {a, b, c, d}, {d, c, b, a}, {b, b, d}, {d, b, d}, {b, d, d}} {
			if s, err := preds.Of(l...); s != nil || err != api.ErrTwice {
				t.Errorf("Of(%v): %v %d", l, s, err)
			}
		}
	}
	p := place(17, 5)
	for i, d := range []api.Cmd{{ID: 17, Symbol: 0, Side: p.Side, Price: p.Price, Qty: p.Qty}, {ID: 17, Symbol: 1, Side: api.Buy, Price: p.Price, Qty: p.Qty}, {ID: 17, Symbol: 1, Side: p.Side, Price: 6, Qty: p.Qty}, {ID: 17, Symbol: 1, Side: p.Side, Price: p.Price, Qty: 8}} {
		if s, err := preds.Of(p, d); s != nil || err != api.ErrTwice {
			t.Errorf("another part, %d: %v %d", i, s, err)
		}
	}
}

// TestFull is P3.1: sets of 1024 commands, and of one more, with and without doubled ones.
func TestFull(t *testing.T) {
	for _, n := range []int{mostPreds - 1, mostPreds, mostPreds + 1, allNames} {
		want, wrong := first(n), api.OK
		if n > mostPreds {
			want, wrong = nil, api.ErrFull
		}
		thrice := slices.Concat(first(n), first(n), first(n))
		for _, l := range [][]api.Cmd{first(n), mixed(1, first(n)), mixed(2, thrice)} {
			if s, err := preds.Of(l...); !same(s, want) || err != wrong {
				t.Errorf("Of %d of %d: %d %d", len(l), n, len(s), err)
			}
			i := len(l) / 3
			if s, err := preds.Union(l[:i], l[i:], l[i:i+1]); !same(s, want) || err != wrong {
				t.Errorf("Union of %d of %d: %d %d", len(l), n, len(s), err)
			}
		}
	}
	full := first(mostPreds + 1)
	if s, err := preds.Union(full[:1], full[1:]); s != nil || err != api.ErrFull {
		t.Errorf("one and 1024: %d %d", len(s), err)
	}
	if s, err := preds.Union(full[:mostPreds], full[1:mostPreds]); !same(s, full[:mostPreds]) || err != api.OK {
		t.Errorf("1024, and what stands in them: %d %d", len(s), err)
	}
}

// TestFirstError is P3.1: of several errors the one that is named first, wherever in the list they lie.
func TestFirstError(t *testing.T) {
	full, two, wrong := first(mostPreds+1), []api.Cmd{place(16, 1), place(16, 2)}, []api.Cmd{{ID: 25}}
	for _, x := range []struct {
		parts [][]api.Cmd
		want  api.Errno
	}{
		{[][]api.Cmd{full}, api.ErrFull}, {[][]api.Cmd{full, nil, full}, api.ErrFull},
		{[][]api.Cmd{two}, api.ErrTwice}, {[][]api.Cmd{full, two}, api.ErrTwice}, {[][]api.Cmd{two, full}, api.ErrTwice}, {[][]api.Cmd{full, {place(full[mostPreds].ID, 99)}}, api.ErrTwice},
		{[][]api.Cmd{wrong}, api.ErrArg}, {[][]api.Cmd{two, wrong}, api.ErrArg}, {[][]api.Cmd{wrong, two}, api.ErrArg}, {[][]api.Cmd{full, wrong}, api.ErrArg}, {[][]api.Cmd{wrong, full}, api.ErrArg},
		{[][]api.Cmd{full, two, wrong}, api.ErrArg}, {[][]api.Cmd{wrong, two, full}, api.ErrArg}, {[][]api.Cmd{two, wrong, full}, api.ErrArg},
	} {
		if s, err := preds.Union(x.parts...); s != nil || err != x.want {
			t.Errorf("Union: %d %d, not %d", len(s), err, x.want)
		}
		if s, err := preds.Of(slices.Concat(x.parts...)...); s != nil || err != x.want {
			t.Errorf("Of: %d %d, not %d", len(s), err, x.want)
		}
	}
}

// TestFind is P3.1: among sets, and among any: the first one of a name.
func TestFind(t *testing.T) {
	full := first(mostPreds)
	for i, c := range full {
		if got, ok := preds.Find(full, c.ID); got != c || !ok {
			t.Fatalf("Find %d: %v %t", c.ID, got, ok)
		}
		if got, ok := preds.Find(full[:i], c.ID); got != (api.Cmd{}) || ok {
			t.Fatalf("Find %d ahead of it: %v %t", c.ID, got, ok)
		}
		if got, ok := preds.Find(full[i+1:], c.ID); got != (api.Cmd{}) || ok {
			t.Fatalf("Find %d behind it: %v %t", c.ID, got, ok)
		}
	}
	a, b, c, wrong := place(33, 5), cancel(33, 17), place(17, 5), api.Cmd{ID: 18, Kind: 3}
	for _, x := range []struct {
		l    []api.Cmd
		id   int
		want api.Cmd
		ok   bool
	}{
		{nil, 33, api.Cmd{}, false}, {[]api.Cmd{}, 33, api.Cmd{}, false}, {nil, 0, api.Cmd{}, false},
		{[]api.Cmd{a, b, c}, 33, a, true}, {[]api.Cmd{b, a, c}, 33, b, true}, {[]api.Cmd{a, b, c}, 17, c, true}, {[]api.Cmd{c, b, a}, 33, b, true},
		{[]api.Cmd{a, wrong, c}, 18, wrong, true}, {[]api.Cmd{a, wrong, c}, 17, c, true}, {[]api.Cmd{a, {}}, 0, api.Cmd{}, true},
		{[]api.Cmd{a, b, c}, 16, api.Cmd{}, false}, {[]api.Cmd{a, b, c}, 34, api.Cmd{}, false}, {[]api.Cmd{a, b, c}, 0, api.Cmd{}, false},
		{[]api.Cmd{a, b, c}, 5, api.Cmd{}, false}, {[]api.Cmd{a, b, c}, -33, api.Cmd{}, false}, {[]api.Cmd{a, b, c}, math.MinInt, api.Cmd{}, false}, {[]api.Cmd{a, b, c}, math.MaxInt, api.Cmd{}, false},
	} {
		if got, ok := preds.Find(x.l, x.id); got != x.want || ok != x.ok {
			t.Errorf("Find(%v, %d): %v %t", x.l, x.id, got, ok)
		}
	}
}

// TestUnion is P3.1 and P3.2: no list at all, empty ones, ordinary sets, and those that agree not.
func TestUnion(t *testing.T) {
	a, b, c := place(17, 5), cancel(33, 17), amend(34, 17, 1)
	for _, x := range []struct {
		l    [][]api.Cmd
		want []api.Cmd
	}{
		{nil, nil}, {[][]api.Cmd{}, nil}, {[][]api.Cmd{nil}, nil}, {[][]api.Cmd{nil, {}, nil}, nil},
		{[][]api.Cmd{{a}}, []api.Cmd{a}}, {[][]api.Cmd{nil, {b}, {}}, []api.Cmd{b}}, {[][]api.Cmd{{a, c}, {b}}, []api.Cmd{a, b, c}}, {[][]api.Cmd{{b}, {a, c}}, []api.Cmd{a, b, c}},
		{[][]api.Cmd{{a, b}, {b, c}, {a, c}}, []api.Cmd{a, b, c}}, {[][]api.Cmd{{a, b}, {a, b}}, []api.Cmd{a, b}}, {[][]api.Cmd{{c}, {b}, {a}, {b}}, []api.Cmd{a, b, c}},
		{[][]api.Cmd{{c, b}, {a, a}}, []api.Cmd{a, b, c}},
	} {
		if s, err := preds.Union(x.l...); !same(s, x.want) || err != api.OK {
			t.Errorf("Union(%v): %v %d", x.l, s, err)
		}
	}
	if s, err := preds.Union(); s != nil || err != api.OK {
		t.Errorf("Union(): %v %d", s, err)
	}
	for _, l := range [][][]api.Cmd{{{a, b}, {cancel(33, 16)}}, {{place(17, 6)}, {a, b, c}}, {{a}, {b}, {c}, {amend(34, 17, 2)}}, {{b, amend(33, 17, 1)}}} {
		if s, err := preds.Union(l...); s != nil || err != api.ErrTwice {
			t.Errorf("Union(%v): %v %d", l, s, err)
		}
	}
}

// TestAllUnions is P3.1 and P3.2: of any two short lists, sets or not, and of a third one, in each order: what Of has,
// just the parts' commands, a set.
func TestAllUnions(t *testing.T) {
	all := lists()
	third := []api.Cmd{amend(33, 16, 2)}
	for _, a := range all {
		if preds.Right(a) != isSet(a) {
			t.Fatalf("Right(%v): not %t", a, isSet(a))
		}
		for _, b := range all {
			want, wrong := setOf(slices.Concat(a, b))
			for _, l := range [][][]api.Cmd{{a, b}, {b, a}, {a, b, a}, {nil, a, {}, b}} {
				if s, err := preds.Union(l...); !same(s, want) || err != wrong || !preds.Right(s) {
					t.Fatalf("Union(%v): %v %d, not %v %d", l, s, err, want, wrong)
				}
			}
			if s, err := preds.Of(slices.Concat(b, a)...); !same(s, want) || err != wrong {
				t.Fatalf("Of(%v, %v): %v %d, not %v %d", b, a, s, err, want, wrong)
			}
			want, wrong = setOf(slices.Concat(a, b, third))
			for _, l := range [][][]api.Cmd{{a, b, third}, {third, b, a}, {b, third, a}} {
				if s, err := preds.Union(l...); !same(s, want) || err != wrong {
					t.Fatalf("Union(%v): %v %d, not %v %d", l, s, err, want, wrong)
				}
			}
		}
	}
}

// TestManySets is P3.2: unions of greater sets, mixed: just what their parts have, in whatever order they come.
func TestManySets(t *testing.T) {
	for seed := range int64(60) {
		l := mixed(seed, first(mostPreds+40*int(seed%2)))
		var parts [][]api.Cmd
		for i := 0; i < len(l); i += 1 + int(seed)*5 { // never more than a part has: all are in some part
			part, err := preds.Of(l[i:min(len(l), i+300)]...)
			if err != api.OK || !preds.Right(part) {
				t.Fatalf("a part of %d: %d", len(part), err)
			}
			parts = append(parts, part)
		}
		want, wrong := first(mostPreds), api.OK
		if seed%2 == 1 {
			want, wrong = nil, api.ErrFull
		}
		for range 3 {
			if s, err := preds.Union(parts...); !same(s, want) || err != wrong {
				t.Fatalf("%d parts: %d %d, not %d %d", len(parts), len(s), err, len(want), wrong)
			}
			slices.Reverse(parts)
			parts = append(parts[1:], parts[0])
		}
	}
}

// TestMinus is P3.1: of any two short lists, those whose names stand not in the other one, whichever command has them.
func TestMinus(t *testing.T) {
	a, b, c, other := place(17, 5), cancel(33, 17), amend(34, 17, 1), place(33, 5)
	for _, x := range []struct{ a, b, want []api.Cmd }{
		{nil, nil, nil}, {nil, []api.Cmd{a}, nil}, {[]api.Cmd{}, []api.Cmd{}, nil}, {[]api.Cmd{a}, nil, []api.Cmd{a}}, {[]api.Cmd{a, b}, []api.Cmd{}, []api.Cmd{a, b}},
		{[]api.Cmd{a, b, c}, []api.Cmd{b}, []api.Cmd{a, c}}, {[]api.Cmd{a, b, c}, []api.Cmd{other}, []api.Cmd{a, c}}, {[]api.Cmd{b}, []api.Cmd{a, b, c}, nil},
		{[]api.Cmd{a, b, c}, []api.Cmd{a, b, c}, nil}, {[]api.Cmd{a, c}, []api.Cmd{b}, []api.Cmd{a, c}}, {[]api.Cmd{a, b, c}, []api.Cmd{c, a}, []api.Cmd{b}},
	} {
		if s := preds.Minus(x.a, x.b); !same(s, x.want) {
			t.Errorf("Minus(%v, %v): %v", x.a, x.b, s)
		}
	}
	for _, a := range lists() {
		for _, b := range lists() {
			if s, want := preds.Minus(a, b), without(a, b); !same(s, want) || isSet(a) && !preds.Right(s) {
				t.Fatalf("Minus(%v, %v): %v, not %v", a, b, s, want)
			}
		}
	}
	full := first(allNames)
	for n := range mostPreds {
		if s := preds.Minus(full[:mostPreds], full[n:mostPreds+n]); !same(s, full[:n]) {
			t.Fatalf("1024 without those from %d on: %d", n, len(s))
		}
	}
}

// TestIds is P3.1: names in the order in which they stand, of any commands.
func TestIds(t *testing.T) {
	for _, x := range []struct {
		l    []api.Cmd
		want []int
	}{
		{nil, nil}, {[]api.Cmd{}, nil}, {[]api.Cmd{place(17, 5)}, []int{17}}, {[]api.Cmd{place(17, 5), cancel(33, 17), amend(34, 17, 1)}, []int{17, 33, 34}},
		{[]api.Cmd{cancel(33, 17), place(17, 5), cancel(33, 17)}, []int{33, 17, 33}}, {[]api.Cmd{{ID: math.MaxInt}, {}, {ID: -1}, {ID: 25}}, []int{math.MaxInt, 0, -1, 25}},
	} {
		if got := preds.Ids(x.l); !slices.Equal(got, x.want) || len(x.want) == 0 && got != nil {
			t.Errorf("Ids(%v): %v", x.l, got)
		}
	}
	full := first(allNames)
	for i, id := range preds.Ids(full) {
		if id != full[i].ID {
			t.Fatalf("at %d: %d", i, id)
		}
	}
}

// TestSame is P3.1: one by one, in each part, of any commands; nil and a list without elements are the same.
func TestSame(t *testing.T) {
	text := func(l []api.Cmd) string { return fmt.Sprint(len(l), l) }
	for _, a := range lists() {
		for _, b := range lists() {
			if preds.Same(a, b) != (text(a) == text(b)) {
				t.Fatalf("Same(%v, %v): %t", a, b, preds.Same(a, b))
			}
		}
	}
	c := api.Cmd{ID: 17, Kind: api.Amend, Symbol: 1, Target: 33, Side: api.Sell, Price: 2, Qty: 3}
	for i, d := range []api.Cmd{
		{ID: 18, Kind: c.Kind, Symbol: c.Symbol, Target: c.Target, Side: c.Side, Price: c.Price, Qty: c.Qty},
		{ID: c.ID, Kind: api.Place, Symbol: c.Symbol, Target: c.Target, Side: c.Side, Price: c.Price, Qty: c.Qty},
		{ID: c.ID, Kind: c.Kind, Symbol: 0, Target: c.Target, Side: c.Side, Price: c.Price, Qty: c.Qty},
		{ID: c.ID, Kind: c.Kind, Symbol: c.Symbol, Target: 34, Side: c.Side, Price: c.Price, Qty: c.Qty},
		{ID: c.ID, Kind: c.Kind, Symbol: c.Symbol, Target: c.Target, Side: api.Buy, Price: c.Price, Qty: c.Qty},
		{ID: c.ID, Kind: c.Kind, Symbol: c.Symbol, Target: c.Target, Side: c.Side, Price: 0, Qty: c.Qty},
		{ID: c.ID, Kind: c.Kind, Symbol: c.Symbol, Target: c.Target, Side: c.Side, Price: c.Price, Qty: 0},
	} {
		if preds.Same([]api.Cmd{c}, []api.Cmd{d}) || preds.Same([]api.Cmd{d, c}, []api.Cmd{c, d}) || !preds.Same([]api.Cmd{d}, []api.Cmd{d}) {
			t.Errorf("another part, %d", i)
		}
	}
	full := first(allNames)
	if !preds.Same(full, first(allNames)) || preds.Same(full, full[1:]) || preds.Same(full[:9], full) || preds.Same(full[:9], full[1:10]) || preds.Same(full, nil) {
		t.Error("of many")
	}
}

// roomy is a list with room behind its length, in which commands lie that nobody may look at.
func roomy(l []api.Cmd) []api.Cmd {
	all := append(slices.Clone(l), api.Cmd{ID: 16}, api.Cmd{ID: 17, Kind: 9}, api.Cmd{ID: -1})
	return all[:len(l):len(all)]
}

// TestOwn is P3.1: what is handed in is left as it was, and behind its length too; what is told is one's own.
func TestOwn(t *testing.T) {
	for _, l := range [][]api.Cmd{nil, {cancel(33, 17)}, {cancel(33, 17), place(17, 5), cancel(33, 17)}, {place(17, 5), cancel(33, 17), amend(34, 17, 1)}, mixed(3, first(90))} {
		a, b, none := roomy(l), roomy(l), roomy(nil)
		row := [][]api.Cmd{a, none, b, {place(lastName, 1)}}[:3]
		kept := [][]api.Cmd{slices.Clone(a[:cap(a)]), slices.Clone(none[:cap(none)])}
		var told [][]api.Cmd
		for range 2 {
			of, _ := preds.Of(a...)
			union, _ := preds.Union(row...)
			one, _ := preds.Union(a)
			told = append(told, of, union, one, preds.Minus(a, none), preds.Minus(none, a))
		}
		ids := [][]int{preds.Ids(a), preds.Ids(a)}
		preds.Right(a)
		preds.Same(a, b)
		preds.Find(a, 33)
		want := slices.Clone(told)
		for i := range want {
			want[i] = slices.Clone(want[i])
		}
		for i, s := range told { // each is overwritten, up to its capacity; all others stay
			if !slices.Equal(s, want[i]) {
				t.Fatalf("answer %d shares memory with another one", i)
			}
			s = s[:cap(s)]
			for j := range s {
				s[j] = api.Cmd{ID: -7}
			}
		}
		for i := range ids[0] {
			ids[0][i] = -7
		}
		if slices.Contains(ids[1], -7) {
			t.Error("names share memory")
		}
		for _, x := range [][]api.Cmd{a, b} {
			if !slices.Equal(x[:cap(x)], kept[0]) {
				t.Errorf("of %v: written into", l)
			}
		}
		if !slices.Equal(none[:cap(none)], kept[1]) || len(row) != 3 || !slices.Equal(row[:4][3], []api.Cmd{place(lastName, 1)}) || len(row[1]) != 0 {
			t.Errorf("of %v: the row is written into", l)
		}
	}
}

// whatever are lists of any commands, whether they may be or not, and long ones.
func whatever() [][]api.Cmd {
	odd := []int{math.MinInt, -17, -1, 0, 1, 2, 3, 15, 16, 17, 24, 25, 33, 1 << 20, lastName, lastName + 1, math.MaxInt}
	all := [][]api.Cmd{nil, first(3), first(mostPreds + 1), slices.Repeat(first(2), 5000), mixed(4, first(allNames)), make([]api.Cmd, 3000)}
	for _, n := range odd {
		for _, k := range odd {
			c := api.Cmd{ID: n, Kind: api.Kind(k), Symbol: k, Target: n, Side: api.Side(k), Price: n, Qty: k}
			all = append(all, []api.Cmd{c}, []api.Cmd{c, {ID: k}, c}, []api.Cmd{{ID: 17}, c})
		}
	}
	return all
}

// TestWhateverIsAsked is P1 and P2: every call ends, at whatever it is given, and answers the same when it is asked
// again, with others asked between.
func TestWhateverIsAsked(t *testing.T) {
	all := whatever()
	answers := func(i int) string {
		a, b := all[i], all[(i*7+1)%len(all)]
		of, err := preds.Of(a...)
		union, wrong := preds.Union(a, b, a)
		found, ok := preds.Find(b, 17+i%17)
		return fmt.Sprint(preds.Right(a), of, err, union, wrong, found, ok, preds.Minus(a, b), preds.Ids(b), preds.Same(a, b))
	}
	var told []string
	for i := range all {
		told = append(told, answers(i))
	}
	for i := len(all) - 1; i >= 0; i-- {
		if got := answers(i); got != told[i] {
			t.Fatalf("list %d: %.200s, then %.200s", i, told[i], got)
		}
	}
}
