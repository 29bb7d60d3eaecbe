package node

import (
	"slices"
	"testing"

	"prunewell/api"
	"prunewell/clock"
	"prunewell/state"
)

// picker picks numbers that look like nothing in particular, but are the same each time.
func picker(start int) func(below int) int {
	x := start
	return func(below int) int {
		x = (x*1103515245 + 12345) % (1 << 31)
		return (x >> 8) % below
	}
}

// model is what nodes should have, told without states: by numbers of updates in one list of all that were issued.
type model struct {
	all   []api.Update
	nodes []modelNode
}

type modelNode struct {
	seen, base api.Clock
	log        []int
	known      []api.Clock
}

// modelParcel goes beside a parcel: which updates are in it, and what its state saw.
type modelParcel struct {
	from, to int
	whole    bool
	saw      api.Clock
	updates  []int
	clock    api.Clock
	real     api.Parcel
}

// walk has real nodes beside their model, and all parcels that were ever sent.
type walk struct {
	t     *testing.T
	pick  func(below int) int
	nodes []api.Node
	model
	parcels []modelParcel
	honest  bool // no node believes what it was not told
}

func newWalk(t *testing.T, n, first int) *walk {
	w := &walk{t: t, pick: picker(first)}
	for self := range n {
		w.nodes = append(w.nodes, start(t, self, n))
		m := modelNode{seen: make(api.Clock, n), base: make(api.Clock, n)}
		for range n {
			m.known = append(m.known, make(api.Clock, n))
		}
		w.model.nodes = append(w.model.nodes, m)
	}
	return w
}

func (m *model) has(c api.Clock, at int) bool {
	u := m.all[at]
	return c[u.Author] > u.Seen[u.Author]
}

// lacking are those of l that c has not.
func (m *model) lacking(l []int, c api.Clock) []int {
	return slices.DeleteFunc(slices.Clone(l), func(at int) bool { return m.has(c, at) })
}

func (m *model) updates(l []int) []api.Update {
	var out []api.Update
	for _, at := range l {
		out = append(out, m.all[at])
	}
	return out
}

// played is what all updates come to that c has, as they were issued.
func (m *model) played(t *testing.T, c api.Clock) api.State {
	t.Helper()
	s := state.Start(len(c))
	for at := range m.all {
		if m.has(c, at) {
			s = must[api.State](t)(state.Apply(s, m.all[at]))
		}
	}
	return s
}

func (w *walk) check(who int, what string) {
	w.t.Helper()
	m := w.model.nodes[who]
	want := api.Node{Self: who, State: w.played(w.t, m.seen), Base: m.base, Log: w.updates(m.log), Known: m.known}
	checkNode(w.t, what, w.nodes[who], api.OK, want)
}

func (w *walk) issue(who int) {
	w.t.Helper()
	u := api.Update{Kind: 1 + w.pick(5), Key: w.pick(3), Item: w.pick(5) - 2}
	if u.Kind == api.Clear {
		u.Item = 0
	}
	w.nodes[who] = must[api.Node](w.t)(Issue(w.nodes[who], u))
	m := &w.model.nodes[who]
	u.Author, u.Seen = who, slices.Clone(m.seen)
	m.log = append(m.log, len(w.all))
	w.all = append(w.all, u)
	m.seen[who]++
	m.known[who] = slices.Clone(m.seen)
	w.check(who, "issue")
}

func (w *walk) send(from, to int) {
	w.t.Helper()
	m := w.model.nodes[from]
	p := modelParcel{from: from, to: to, clock: slices.Clone(m.seen)}
	for author, base := range m.base {
		p.whole = p.whole || m.known[to][author] < base
	}
	want := api.Parcel{Whole: p.whole, Clock: p.clock}
	if p.whole {
		p.saw = slices.Clone(m.seen)
		want.State = w.played(w.t, m.seen)
	} else {
		p.updates = w.lacking(m.log, m.known[to])
		want.Updates = w.updates(p.updates)
	}
	got, err := Send(w.nodes[from], to)
	checkParcel(w.t, "send", got, err, want)
	p.real = got
	w.parcels = append(w.parcels, p)
}

func greater(a, b api.Clock) api.Clock {
	out := slices.Clone(a)
	for author := range out {
		out[author] = max(out[author], b[author])
	}
	return out
}

func isWithin(a, b api.Clock) bool {
	return slices.Equal(greater(a, b), b)
}

// taken is the model's node after a parcel, and whether all that it saw was there.
func (w *walk) taken(p modelParcel) (modelNode, bool) {
	m := w.model.nodes[p.to]
	m.seen, m.known = slices.Clone(m.seen), slices.Clone(m.known)
	if p.whole {
		m.seen, m.base = greater(m.seen, p.saw), greater(m.base, p.saw)
		m.log = w.lacking(m.log, m.base)
	}
	for _, at := range p.updates {
		if w.has(m.seen, at) {
			continue
		}
		if !isWithin(w.all[at].Seen, m.seen) {
			return modelNode{}, false
		}
		m.seen[w.all[at].Author]++
		m.log = append(slices.Clone(m.log), at)
	}
	m.known[p.from], m.known[p.to] = greater(m.known[p.from], p.clock), slices.Clone(m.seen)
	return m, isWithin(p.clock, m.seen)
}

// take tells whether the parcel was not refused.
func (w *walk) take(p modelParcel) bool {
	w.t.Helper()
	got, err := Take(w.nodes[p.to], p.from, p.real)
	m, fits := w.taken(p)
	if !fits {
		checkNoNode(w.t, "take", got, err, api.ErrEarly)
		return false
	}
	if err != api.OK {
		w.t.Fatalf("Take(%v, %d, %v) is refused: %v", w.nodes[p.to], p.from, p.real, err)
	}
	w.nodes[p.to], w.model.nodes[p.to] = got, m
	w.check(p.to, "take")
	return true
}

func (w *walk) prune(who int) {
	w.t.Helper()
	w.nodes[who] = must[api.Node](w.t)(Prune(w.nodes[who]))
	m := &w.model.nodes[who]
	base := slices.Clone(m.base)
	for author := range base {
		least := m.seen[author]
		for _, c := range m.known {
			least = min(least, c[author])
		}
		base[author] = max(base[author], least)
	}
	m.base, m.log = base, w.lacking(m.log, base)
	w.check(who, "prune")
}

// believe has a node think that of another one's clock, right or not: only then something it needs can be missing.
func (w *walk) believe(who, of int, c api.Clock) {
	w.nodes[who].Known[of] = slices.Clone(c)
	w.model.nodes[who].known = slices.Clone(w.model.nodes[who].known)
	w.model.nodes[who].known[of] = slices.Clone(c)
}

// counts are how often each thing came about: a walk that misses one shows nothing of it.
type counts struct{ wholes, refused, pruned int }

func (w *walk) step(c *counts) {
	w.t.Helper()
	n := len(w.nodes)
	who := w.pick(n)
	to := (who + 1 + w.pick(max(n-1, 1))) % n
	switch what := w.pick(10); {
	case what < 2:
		w.issue(who)
	case what < 5 && to != who:
		w.send(who, to)
		if w.parcels[len(w.parcels)-1].whole {
			c.wholes++
		}
	case what < 6 && to != who && !w.honest && w.pick(3) == 0:
		w.believe(who, to, [...]api.Clock{make(api.Clock, n), w.model.nodes[who].seen}[w.pick(2)])
	case what < 9 && len(w.parcels) > 0:
		// Mostly one of the latest ones, but some come late, twice, or never.
		behind := 1 + w.pick(min(len(w.parcels), 1+w.pick(4*n)))
		if !w.take(w.parcels[len(w.parcels)-behind]) {
			c.refused++
		}
	default:
		before := len(w.model.nodes[who].log)
		w.prune(who)
		if len(w.model.nodes[who].log) < before {
			c.pruned++
		}
	}
}

// round has each one tell each other one all.
func (w *walk) round() {
	w.t.Helper()
	for from := range w.nodes {
		for to := range w.nodes {
			if from == to {
				continue
			}
			w.send(from, to)
			if !w.take(w.parcels[len(w.parcels)-1]) {
				w.t.Fatalf("what was just sent from %d is refused by %d", from, to)
			}
		}
	}
}

// settle has all tell each other all, until each knows that all have it: then all read the same, and no log has an update.
func (w *walk) settle() {
	w.t.Helper()
	for who := range w.nodes {
		for of := range w.nodes {
			if of != who {
				w.believe(who, of, make(api.Clock, len(w.nodes)))
			}
		}
	}
	w.round()
	w.round()
	w.round()
	want, _ := state.Read(w.played(w.t, w.model.nodes[0].seen))
	for who := range w.nodes {
		w.prune(who)
		d := w.nodes[who]
		if view, fault := state.Read(d.State); fault.Err != api.OK || !same(view, want) {
			w.t.Errorf("node %d reads %v, not %v", who, view, want)
		}
		if len(d.Log) > 0 || !same(d.Base, d.State.Clock) {
			w.t.Errorf("node %d has not forgotten: %v", who, d)
		}
	}
}

// TestF3Walks lets nodes talk, with parcels that come late, twice, or never, and holds each answer against the model.
func TestF3Walks(t *testing.T) {
	var c counts
	for n := 1; n <= most; n++ {
		for first := range 6 {
			w := newWalk(t, n, 1000*n+first)
			for range 300 {
				w.step(&c)
				if t.Failed() {
					t.FailNow()
				}
			}
			w.settle()
		}
	}
	if c.wholes < 50 || c.refused < 50 || c.pruned < 50 {
		t.Errorf("too few of something: %+v", c)
	}
}

// TestF3Honest has nodes that know only what they were told: nothing is refused, nothing must be sent whole, and all is
// forgotten in the end.
func TestF3Honest(t *testing.T) {
	var c counts
	for n := 1; n <= most; n++ {
		w := newWalk(t, n, 77*n)
		w.honest = true
		for range 400 {
			w.step(&c)
			if t.Failed() {
				t.FailNow()
			}
		}
	}
	if c.wholes > 0 || c.refused > 0 || c.pruned < 20 {
		t.Errorf("something came about that can't: %+v", c)
	}
}

// TestF3Late has one who comes late, when all was pruned by the others: it gets it whole, and forgets nothing of its own.
func TestF3Late(t *testing.T) {
	w := newWalk(t, 3, 5)
	for range 20 {
		w.issue(w.pick(2))
	}
	w.issue(2)
	for range 2 {
		w.send(0, 1)
		w.take(w.parcels[len(w.parcels)-1])
		w.send(1, 0)
		w.take(w.parcels[len(w.parcels)-1])
	}
	a := w.nodes[0]
	a.Known[2] = clock.Copy(a.State.Clock)
	a = must[api.Node](t)(Prune(a))
	a.Known[2] = make(api.Clock, 3)
	p := must[api.Parcel](t)(Send(a, 2))
	if len(a.Log) > 0 || !p.Whole || len(p.Updates) > 0 {
		t.Errorf("%v is sent by %v", p, a)
	}
	got, err := Take(w.nodes[2], 0, p)
	all := append(slices.Clone(a.State.Clock[:2]), 1)
	want := api.Node{Self: 2, State: w.played(t, all), Base: a.State.Clock, Log: w.nodes[2].Log, Known: clocks(a.State.Clock, make(api.Clock, 3), all)}
	checkNode(t, "late", got, err, want)
}
