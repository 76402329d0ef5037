package leader_test

import (
	"math/rand"
	"testing"

	"lictor/api"
	"lictor/leader"
)

// witness is who looks at a leader from outside: what was handed in and what it told, by which it may say stable.
type witness struct {
	n       int
	started api.Value
	quick   map[int]bool // who said okay with Flag, at ballot 0, to what was started
	closing api.Value
	bal     int
	taken   map[int]bool // who accepted what was closed with
	did     map[string]int
}

// sees is P16.2: a leader, of one command, was handed something, and told that; what it says is stable has to be enough.
func (w *witness) sees(t *testing.T, x act, got []api.Msg) {
	m := x.m
	reply := x.how == 0
	if reply && m.Sort == api.Okay && m.Flag && m.Bal == 0 && m.V.T == w.started.T && m.From < w.n {
		w.quick[m.From] = true
	}
	if reply && m.Sort == api.Accepted && m.Bal == w.bal && m.From < w.n {
		w.taken[m.From] = true
	}
	if len(got) == 0 {
		return
	}
	switch v := got[0].V; got[0].Sort {
	case api.Propose:
		if x.how == 's' {
			w.started, w.quick = v, map[int]bool{}
		}
	case api.Accept:
		w.closing, w.bal, w.taken = v, got[0].Bal, map[int]bool{}
	case api.Stable:
		switch {
		case reply && m.Sort == api.Stable && sameValue(m.V, v):
			w.did["was stable"]++
		case sameValue(v, w.started) && len(w.quick) >= fast(w.n):
			w.did["quick"]++
		case sameValue(v, w.closing) && len(w.taken) >= classic(w.n):
			w.did["accepted"]++
		default:
			t.Fatalf("of %d: %s: told %s", w.n, short(x), short(got))
		}
	}
}

// TestShortRows is P16.1: of three, all rows of three acts of some, behind several beginnings, against the words' own.
func TestShortRows(t *testing.T) {
	const node, b = 1, 6
	a, f := value(at(40, 1), place(18, 1)), fastest()
	some := append(replies(node,
		yes(0), okay(1, 0, first().T, place(18, 1)), refuse(2, 0, first().T, at(30, 2), place(32, 1)), okay(2, 1, first().T),
		okay(0, 1, at(30, 2)), refuse(1, 1, at(30, 2), at(40, 1)), refuse(2, 1, at(30, 2), 16), refuse(2, b, f.T, at(40, 1), place(18, 1)), okay(0, b, f.T, place(33, 1)), okay(1, b, f.T),
		voted(promise(0, b, at(30, 2)), f), voted(promise(1, b, at(40, 1), place(18, 1)), f), promise(2, b, at(40, 1)), okay(0, b, at(40, 1)), okay(2, b, at(40, 1)),
		accepted(0, 1), accepted(1, 1), accepted(2, b), accepted(0, b), stable(1, a), reject(0, b, 7),
	), hurry(led()))
	starts, takes := start(led(), first()), take(led(), b)
	with := func(x act, l ...api.Msg) []act { return append([]act{x}, replies(node, l...)...) }
	p0, p1, p2 := promise(0, b, at(40, 1)), promise(1, b, at(40, 1)), promise(2, b, at(40, 1))
	begins := [][]act{
		with(starts), with(takes), with(starts, yes(2)), with(starts, yes(2), yes(1)), with(starts, refuse(0, 0, first().T, 16)),
		with(starts, refuse(1, 0, first().T, 16), refuse(0, 0, first().T, at(30, 2), place(17, 5))),
		with(starts, okay(1, 0, first().T), okay(0, 0, first().T, place(64, 5))),
		with(takes, p2, p1), with(takes, p0), with(takes, voted(p0, f)), with(takes, voted(p2, f), voted(p1, f)), with(takes, p2, bound(p1, 1, a)),
	}
	did := map[string]int{}
	for _, begin := range begins {
		for row := range len(some) * len(some) * len(some) {
			p := newPair(t, node, 3)
			for _, x := range begin {
				p.do(t, x)
			}
			for range 3 {
				p.do(t, some[row%len(some)])
				row /= len(some)
			}
			for k, many := range p.w.did {
				did[k] += many
			}
		}
	}
	for _, k := range []string{
		"starts", "takes over", "finishes quickly", "closes slowly", "proposes slowly", "hurries", "closes", "refused", "an exact one is refused", "finishes",
		"bound, taking over", "exact, taking over", "free, taking over", "free, proposing", "exact, proposing", "is stable", "rejected",
		"voted twice", "promised twice", "accepted twice", "another ballot", "another timestamp", "another phase", "no reply",
	} {
		if did[k] < 10 {
			t.Errorf("%s: %d times", k, did[k])
		}
	}
}

// dice make rows, the same ones each time.
type dice struct {
	*rand.Rand
	n, node int
	seldom  int // the greater, the more often a row has what brings it on
	sets    [][]api.Cmd
}

// once tells one time out of many that it is so.
func (d dice) once(many int) bool { return d.Intn(many) == 0 }

func (d dice) set() []api.Cmd {
	if d.once(200) {
		return [][]api.Cmd{many(mostPreds), many(mostPreds + 1)[1:], {place(17, 9)}}[d.Intn(3)]
	}
	return d.sets[d.Intn(len(d.sets))]
}

func (d dice) value() api.Value { return value(at(10+d.Intn(3), d.Intn(2)), d.set()...) }

// reply is one to what is asked for, but now and then something of it is another one.
func (d dice) reply(p pair) api.Msg {
	phase, bal, v := p.l.At(led().ID)
	from := d.Intn(d.n)
	l := msgs(flagged(okay(from, bal, v.T)), flagged(okay(from, bal, v.T)), okay(from, bal, v.T, d.set()...), refuse(from, bal, v.T, at(60+d.Intn(9), from), d.set()...))
	if phase == leader.Taking || d.once(9) {
		l = msgs(voted(promise(from, bal, at(70+d.Intn(9), from), d.set()...), fastest()), promise(from, bal, at(70+d.Intn(9), from), d.set()...))
		l = append(l, l[0], l[0], l[0], bound(l[1], 1+d.Intn(3), d.value()))
	}
	if phase == leader.Closing {
		l = msgs(accepted(from, bal))
	}
	if d.once(d.seldom) {
		l = sorts(from, bal, v.T)
	}
	m := l[d.Intn(len(l))]
	m.To = d.node
	switch d.Intn(8 * d.seldom) {
	case 0:
		m.Bal += d.Intn(3) - 1
	case 1:
		m.V.T += d.Intn(3) - 1
	case 2:
		m.To = d.Intn(9)
	case 3:
		m.From = d.Intn(9)
	case 4:
		m.Flag = !m.Flag
	case 5:
		m.Cmd = place(48+d.Intn(3), 5)
	}
	return m
}

func (d dice) act(p pair) act {
	phase, _, _ := p.l.At(led().ID)
	switch {
	case phase == leader.Nothing && d.once(2) || d.once(20*d.seldom):
		return start(led(), d.value())
	case phase == leader.Nothing || d.once(20*d.seldom):
		return take(led(), 2+d.n*d.Intn(3)+d.node)
	case d.once(20 * d.seldom):
		return start(led(), wrongValues()[d.Intn(8)])
	case d.once(2 * d.seldom):
		return hurry(led())
	}
	return replies(d.node, d.reply(p))[0]
}

// TestLongRows is P16.1 and P16.2: long rows, of each cluster, against the words' own, looked at from outside.
func TestLongRows(t *testing.T) {
	did := map[string]int{}
	for seed := range int64(2000) {
		r := rand.New(rand.NewSource(seed))
		n := leastNodes + int(seed)%7
		d := dice{r, n, r.Intn(n), 2 + r.Intn(20), [][]api.Cmd{nil, nil, nil, {place(17, 5)}, {place(18, 5)}, {place(16, 5), place(33, 1)}, {}}}
		p := newPair(t, d.node, n)
		w := &witness{n: n, quick: map[int]bool{}, taken: map[int]bool{}, did: did}
		for range 150 {
			x := d.act(p)
			w.sees(t, x, p.do(t, x))
		}
		for k, many := range p.w.did {
			did[k] += many
		}
	}
	for _, k := range []string{
		"starts", "takes over", "finishes quickly", "closes slowly", "proposes slowly", "hurries", "closes", "refused", "an exact one is refused", "finishes",
		"bound, taking over", "exact, taking over", "free, taking over", "bound, proposing", "free, proposing", "exact, proposing", "is stable", "rejected",
		"voted twice", "promised twice", "accepted twice", "another ballot", "another timestamp", "another phase", "no reply", "may not be",
		"no union, closing", "no union, proposing", "no union, free", "was stable", "quick", "accepted",
	} {
		if did[k] < 10 {
			t.Errorf("%s: %d times", k, did[k])
		}
	}
}
