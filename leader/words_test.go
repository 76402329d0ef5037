package leader_test

import (
	"sort"
	"testing"

	"lictor/api"
	"lictor/leader"
	"lictor/wire"
)

// words is a leader by the document's words, and how often it did each of what a leader can do.
type words struct {
	node, n int
	tries   map[int]*try
	did     map[string]int
}

// try is an attempt.
type try struct {
	cmd                                   api.Cmd
	phase                                 leader.Phase
	bal                                   int
	v                                     api.Value
	exact                                 bool
	okays, refusals, promises, acceptings []api.Msg
}

func newWords(node, n int) *words {
	return &words{node, n, map[int]*try{}, map[string]int{}}
}

func (w *words) at(id int) (leader.Phase, int, api.Value) {
	a, has := w.tries[id]
	if !has {
		return leader.Nothing, 0, none()
	}
	return a.phase, a.bal, a.v
}

func (w *words) did1(what string) { w.did[what]++ }

// toAll is a message to each, and counted; none, if it may not be.
func (w *words) toAll(m api.Msg) []api.Msg {
	m.From = w.node
	if !wire.Right(m) {
		w.did1("may not be")
		return nil
	}
	return to(w.n, w.node, m)
}

func (w *words) start(c api.Cmd, v api.Value) []api.Msg {
	l := w.toAll(api.Msg{Sort: api.Propose, Cmd: c, V: v})
	if l != nil {
		w.tries[c.ID] = &try{cmd: c, phase: leader.Asking, v: v}
		w.did1("starts")
	}
	return l
}

func (w *words) take(c api.Cmd, bal int) []api.Msg {
	l := w.toAll(api.Msg{Sort: api.Prepare, Bal: bal, Cmd: c})
	if l == nil || bal < 2 || (bal-2)%w.n != w.node {
		return nil
	}
	w.tries[c.ID] = &try{cmd: c, phase: leader.Taking, bal: bal}
	w.did1("takes over")
	return l
}

func (w *words) propose(a *try, v api.Value, exact bool) []api.Msg {
	a.phase, a.v, a.exact, a.okays, a.refusals = leader.Proposing, v, exact, nil, nil
	return w.toAll(api.Msg{Sort: api.Propose, Bal: a.bal, Cmd: a.cmd, V: v, Flag: exact})
}

func (w *words) close(a *try, v api.Value) []api.Msg {
	a.phase, a.v = leader.Closing, v
	return w.toAll(api.Msg{Sort: api.Accept, Bal: a.bal, Cmd: a.cmd, V: v})
}

func (w *words) finish(a *try, v api.Value) []api.Msg {
	delete(w.tries, a.cmd.ID)
	return w.toAll(api.Msg{Sort: api.Stable, Cmd: a.cmd, V: v})
}

func (w *words) gone(a *try, what string) []api.Msg {
	delete(w.tries, a.cmd.ID)
	w.did1(what)
	return nil
}

// union is all commands of some values, by names; false, if two of one name are not the same, or there are too many.
func union(l ...api.Value) ([]api.Cmd, bool) {
	byName := map[int]api.Cmd{}
	for _, v := range l {
		for _, c := range v.P {
			if other, has := byName[c.ID]; has && other != c {
				return nil, false
			}
			byName[c.ID] = c
		}
	}
	var all []api.Cmd
	for _, c := range byName {
		all = append(all, c)
	}
	sort.Slice(all, func(i, k int) bool { return all[i].ID < all[k].ID })
	return all, len(all) <= mostPreds
}

// vs are messages' values.
func vs(l []api.Msg) []api.Value {
	var all []api.Value
	for _, m := range l {
		all = append(all, m.V)
	}
	return all
}

// greatest is the greatest timestamp that is suggested.
func greatest(l []api.Msg) int {
	most := 0
	for _, m := range l {
		most = max(most, m.S)
	}
	return most
}

// has tells whether a message of that replica is among some.
func has(l []api.Msg, from int) bool {
	for _, m := range l {
		if m.From == from {
			return true
		}
	}
	return false
}

// closeAll closes with the value, and what okays added.
func (w *words) closeAll(a *try) []api.Msg {
	p, ok := union(append(vs(a.okays), a.v)...)
	if !ok {
		return w.gone(a, "no union, closing")
	}
	return w.close(a, value(a.v.T, p...))
}

// above proposes what is above the refusals, with the value's P, and what okays added.
func (w *words) above(a *try) []api.Msg {
	p, ok := union(append(append(vs(a.refusals), vs(a.okays)...), a.v)...)
	if !ok {
		return w.gone(a, "no union, proposing")
	}
	return w.propose(a, value(greatest(a.refusals), p...), false)
}

func (w *words) slowly(a *try) []api.Msg {
	a.bal = 1
	if len(a.okays) >= classic(w.n) {
		w.did1("closes slowly")
		return w.closeAll(a)
	}
	w.did1("proposes slowly")
	return w.above(a)
}

func (w *words) hurry(id int) []api.Msg {
	a, has := w.tries[id]
	if !has || a.phase != leader.Asking || len(a.okays)+len(a.refusals) < classic(w.n) {
		return nil
	}
	w.did1("hurries")
	return w.slowly(a)
}

// handle is what Handle is to tell.
func (w *words) handle(m api.Msg) []api.Msg {
	a := w.tries[m.Cmd.ID]
	if !wire.Right(m) || m.To != w.node || m.From >= w.n || a == nil || a.cmd != m.Cmd {
		w.did1("no reply")
		return nil
	}
	if m.Sort == api.Stable {
		w.did1("is stable")
		return w.finish(a, m.V)
	}
	if m.Bal != a.bal {
		w.did1("another ballot")
		return nil
	}
	switch {
	case m.Sort == api.Reject:
		return w.gone(a, "rejected")
	case (m.Sort == api.Okay || m.Sort == api.Refuse) && (a.phase == leader.Asking || a.phase == leader.Proposing):
		return w.vote(a, m)
	case m.Sort == api.Promise && (a.phase == leader.Taking || a.phase == leader.Proposing && a.exact):
		return w.promise(a, m)
	case m.Sort == api.Accepted && a.phase == leader.Closing:
		return w.accepting(a, m)
	}
	w.did1("another phase")
	return nil
}

func (w *words) vote(a *try, m api.Msg) []api.Msg {
	if m.V.T != a.v.T {
		w.did1("another timestamp")
		return nil
	}
	if has(a.okays, m.From) || has(a.refusals, m.From) {
		w.did1("voted twice")
		return nil
	}
	if m.Sort == api.Okay {
		a.okays = append(a.okays, m)
	} else {
		a.refusals = append(a.refusals, m)
	}
	if a.phase == leader.Asking {
		return w.asked(a)
	}
	return w.proposed(a)
}

func (w *words) asked(a *try) []api.Msg {
	quick := 0
	for _, m := range a.okays {
		if m.Flag {
			quick++
		}
	}
	said := len(a.okays) + len(a.refusals)
	if quick >= fast(w.n) {
		w.did1("finishes quickly")
		return w.finish(a, a.v)
	}
	if other := said - quick; other > w.n-fast(w.n) && said >= classic(w.n) {
		return w.slowly(a)
	}
	return nil
}

func (w *words) proposed(a *try) []api.Msg {
	if len(a.okays) >= classic(w.n) {
		w.did1("closes")
		return w.closeAll(a)
	}
	if a.exact && len(a.refusals) > 0 {
		w.did1("an exact one is refused")
		return w.free(a, append(a.promises, a.refusals...))
	}
	if len(a.refusals) > w.n-classic(w.n) {
		w.did1("refused")
		return w.above(a)
	}
	return nil
}

// free proposes the fresh value of some.
func (w *words) free(a *try, l []api.Msg) []api.Msg {
	p, ok := union(vs(l)...)
	if !ok {
		return w.gone(a, "no union, free")
	}
	return w.propose(a, value(greatest(l), p...), false)
}

func (w *words) promise(a *try, m api.Msg) []api.Msg {
	if has(a.promises, m.From) {
		w.did1("promised twice")
		return nil
	}
	a.promises = append(a.promises, m)
	q := len(a.promises)
	if q < classic(w.n) {
		return nil
	}
	how := map[leader.Phase]string{leader.Taking: "taking over", leader.Proposing: "proposing"}[a.phase]
	last, freed := api.Msg{}, false
	for _, p := range a.promises {
		freed = freed || p.Flag
		if p.AB > last.AB {
			last = p
		}
	}
	if last.AB > 0 {
		w.did1("bound, " + how)
		return w.close(a, last.A)
	}
	for _, p := range a.promises {
		have := 0
		for _, o := range a.promises {
			if sameValue(o.F, p.F) {
				have++
			}
		}
		if freed || p.F.T == 0 || have < fast(w.n)-(w.n-q) {
			continue
		}
		w.did1("exact, " + how)
		if a.phase == leader.Proposing && sameValue(a.v, p.F) {
			return nil
		}
		return w.propose(a, p.F, true)
	}
	w.did1("free, " + how)
	return w.free(a, a.promises)
}

func (w *words) accepting(a *try, m api.Msg) []api.Msg {
	if has(a.acceptings, m.From) {
		w.did1("accepted twice")
		return nil
	}
	a.acceptings = append(a.acceptings, m)
	if len(a.acceptings) < classic(w.n) {
		return nil
	}
	w.did1("finishes")
	return w.finish(a, a.v)
}

// act is what is done with a leader: a reply is handed in, or a command is started, taken over, or hurried.
type act struct {
	how   byte // 's', 't', 'h', or else
	m     api.Msg
	other int // added to what is hurried
}

func start(c api.Cmd, v api.Value) act { return act{how: 's', m: api.Msg{Cmd: c, V: v}} }

func take(c api.Cmd, bal int) act { return act{how: 't', m: api.Msg{Cmd: c, Bal: bal}} }

func hurry(c api.Cmd) act { return act{how: 'h', m: api.Msg{Cmd: c}} }

// replies are acts that hand in replies, to a replica.
func replies(node int, l ...api.Msg) []act {
	var acts []act
	for _, m := range l {
		m.To = node
		acts = append(acts, act{m: m})
	}
	return acts
}

// pair is a leader, and the words' own one.
type pair struct {
	l *leader.Leader
	w *words
}

func newPair(t *testing.T, node, n int) pair {
	t.Helper()
	return pair{play(t, n, node).l, newWords(node, n)}
}

// do has both do something, and tells whether they tell the same, and are at the same behind it; what is told.
func (p pair) do(t *testing.T, x act, names ...int) []api.Msg {
	return p.doWith(t, x, x.m, names...)
}

// doWith is do, where the leader is handed what is the same as what the words' own one is, and may lie elsewhere.
func (p pair) doWith(t *testing.T, x act, m api.Msg, names ...int) []api.Msg {
	var got, want []api.Msg
	switch c := x.m.Cmd; x.how {
	case 's':
		got, want = p.l.Start(c, m.V), p.w.start(c, x.m.V)
	case 't':
		got, want = p.l.Take(c, m.Bal), p.w.take(c, x.m.Bal)
	case 'h':
		got, want = p.l.Hurry(c.ID+x.other), p.w.hurry(c.ID+x.other)
	default:
		got, want = p.l.Handle(m), p.w.handle(x.m)
	}
	if !same(got, want) {
		t.Fatalf("of %d, %d: %s: told %s, not %s", p.w.n, p.w.node, short(x), short(got), short(want))
	}
	p.isAt(t, x, led().ID)
	p.isAt(t, x, x.m.Cmd.ID)
	for _, id := range names {
		p.isAt(t, x, id)
	}
	return got
}

// isAt tells whether both have their attempt for a name at the same.
func (p pair) isAt(t *testing.T, x act, id int) {
	phase, bal, v := p.l.At(id)
	if e, b, u := p.w.at(id); phase != e || bal != b || !sameValue(v, u) {
		t.Fatalf("of %d, %d: %s: %d is at %d %d %s, not %d %d %s", p.w.n, p.w.node, short(x), id, phase, bal, short(v), e, b, short(u))
	}
}
