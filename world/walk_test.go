package world

import (
	"slices"
	"testing"

	"prunewell/api"
	"prunewell/node"
	"prunewell/state"
)

// picker picks numbers that look like nothing in particular, but are the same each time.
func picker(start int) func(below int) int {
	x := start
	return func(below int) int {
		x = (x*1103515245 + 12345) % (1 << 31)
		return (x >> 8) % below
	}
}

// sent is a parcel of the model.
type sent struct {
	from, to int
	api.Parcel
}

// model is a world told otherwise: all that is on its way, whoever's, stands in one list.
type model struct {
	nodes []api.Node
	way   []sent
}

func newModel(n int) *model { return &model{nodes: fresh(n).Nodes} }

func isOn(p sent, from, to int) bool { return p.from == from && p.to == to }

func (m *model) world() api.World {
	w := fresh(len(m.nodes))
	w.Nodes = slices.Clone(m.nodes)
	for _, p := range m.way {
		w.Way[p.from][p.to] = append(w.Way[p.from][p.to], p.Parcel)
	}
	return w
}

func (m *model) do(do api.Do) api.Errno {
	n := len(m.nodes)
	hasN, hasTo := do.N >= 0 && do.N < n, do.To >= 0 && do.To < n
	isAlone := do.Kind == api.DoIssue || do.Kind == api.DoPrune
	switch {
	case do.Kind < 1 || do.Kind > 5:
		return api.ErrKind
	case !hasN || !isAlone && !hasTo:
		return api.ErrNone
	case isAlone:
		return m.alone(do)
	case do.N == do.To:
		return api.ErrFit
	case do.Kind == api.DoSend:
		return m.send(do.N, do.To)
	}
	at := slices.IndexFunc(m.way, func(p sent) bool { return isOn(p, do.N, do.To) })
	if at < 0 {
		return api.ErrNone
	}
	p := m.way[at].Parcel
	m.way = slices.Concat(m.way[:at], m.way[at+1:])
	if do.Kind == api.DoDrop {
		return api.OK
	}
	d, err := node.Take(m.nodes[do.To], do.N, p)
	return m.put(do.To, d, err)
}

func (m *model) alone(do api.Do) api.Errno {
	d, err := node.Prune(m.nodes[do.N])
	if do.Kind == api.DoIssue {
		d, err = node.Issue(m.nodes[do.N], do.Update)
	}
	return m.put(do.N, d, err)
}

func (m *model) put(who int, d api.Node, err api.Errno) api.Errno {
	if err == api.OK {
		m.nodes[who] = d
	}
	return err
}

func (m *model) send(from, to int) api.Errno {
	on := 0
	for _, p := range m.way {
		if isOn(p, from, to) {
			on++
		}
	}
	if on >= 20 {
		return api.ErrMany
	}
	p, err := node.Send(m.nodes[from], to)
	m.way = append(m.way, sent{from, to, p})
	return err
}

// anything is a thing that may happen among n nodes, mostly one that makes sense.
func anything(pick func(below int) int, n int) api.Do {
	do := issue(pick(n), 1+pick(5), pick(3), pick(5)-2)
	if do.Update.Kind == api.Clear && pick(8) > 0 {
		do.Update.Item = 0
	}
	do.Kind = []int{api.DoIssue, api.DoIssue, api.DoSend, api.DoSend, api.DoSend, api.DoDeliver, api.DoDeliver, api.DoDeliver, api.DoDrop, api.DoPrune}[pick(10)]
	do.To = (do.N + 1 + pick(max(n-1, 1))) % n
	edges := []int{-1, n, do.N, 7}
	switch pick(40) {
	case 0:
		do.Kind = []int{0, 6, -1}[pick(3)]
	case 1:
		do.N = edges[pick(4)]
	case 2:
		do.To = edges[pick(4)]
	case 3:
		do.Update.Kind = 6
	}
	return do
}

func things(pick func(below int) int, n, many int) []api.Do {
	var l []api.Do
	for range many {
		l = append(l, anything(pick, n))
	}
	return l
}

// checkAgree tells if two nodes that have seen the same read otherwise, or a node is wrong.
func checkAgree(t *testing.T, w api.World) {
	t.Helper()
	views := map[string]string{}
	for _, d := range w.Nodes {
		if err := node.Wrong(d); err != api.OK {
			t.Fatalf("%+v is wrong: %v", d, err)
		}
		view, _ := state.Read(d.State)
		seen := told(d.State.Clock)
		if other, ok := views[seen]; ok && other != told(view) {
			t.Fatalf("%v was seen, and %s and %+v are read", seen, other, view)
		}
		views[seen] = told(view)
	}
}

// TestG1Walks plays lists of all that may happen, thing by thing, and holds each answer against the model.
func TestG1Walks(t *testing.T) {
	errs := map[api.Errno]int{}
	for n := 1; n <= most; n++ {
		for first := range 3 {
			l := things(picker(1000*n+first), n, api.MaxDo)
			m := newModel(n)
			var want []api.Errno
			for at := range len(l) + 1 {
				w, came := right(t, n, l[:at])
				if !slices.Equal(came, want) || !same(w, m.world()) {
					t.Fatalf("Play(%d, %+v): %+v, %v come, not %+v, %v", n, l[:at], w, came, m.world(), want)
				}
				checkAgree(t, w)
				if at < len(l) {
					want = append(want, m.do(l[at]))
					errs[want[at]]++
				}
			}
		}
	}
	for _, err := range []api.Errno{api.OK, api.ErrKind, api.ErrForm, api.ErrNone, api.ErrFit} {
		if errs[err] < 5 {
			t.Errorf("%v came %d times: %v", err, errs[err], errs)
		}
	}
}

// TestG1Full sends so much that ways become full, in worlds in which little is delivered.
func TestG1Full(t *testing.T) {
	full := 0
	for first := range 10 {
		pick := picker(first)
		var l []api.Do
		for range api.MaxDo {
			do := []api.Do{send(0, 1), send(0, 1), send(1, 0), send(0, 1), deliver(0, 1), drop(0, 1), put(pick(2), 1, 1), prune(0), send(0, 1), send(0, 2)}[pick(10)]
			l = append(l, do)
		}
		m := newModel(3)
		var want []api.Errno
		for _, do := range l {
			want = append(want, m.do(do))
			if want[len(want)-1] == api.ErrMany {
				full++
			}
		}
		if w := checkCame(t, 3, l, want...); !same(w, m.world()) {
			t.Errorf("%+v comes, not %+v", w, m.world())
		}
	}
	if full < 20 {
		t.Errorf("a way was full %d times", full)
	}
}

// tellings has each one tell each other one what that one lacks, by way of the first: to it, then from it.
func tellings(n int) []api.Do {
	var l []api.Do
	for who := 1; who < n; who++ {
		l = append(l, send(who, 0), deliver(who, 0))
	}
	for who := 1; who < n; who++ {
		l = append(l, send(0, who), deliver(0, who))
	}
	return l
}

// clearing has all that is still on its way lost.
func clearing(w api.World) []api.Do {
	var l []api.Do
	for from := range w.Way {
		for to, way := range w.Way[from] {
			l = append(l, times(len(way), drop(from, to))...)
		}
	}
	return l
}

// TestG1End has all read the same in the end, whatever was lost, and no log have an update.
func TestG1End(t *testing.T) {
	for n := 1; n <= most; n++ {
		for first := range 8 {
			l := things(picker(77*n+first), n, 40)
			w, _ := right(t, n, l)
			l = append(l, clearing(w)...)
			l = append(l, tellings(n)...)
			// Each one must hear of each other one that it has all.
			for from := range n {
				for to := range n {
					if from != to {
						l = append(l, send(from, to), deliver(from, to))
					}
				}
			}
			for who := range n {
				l = append(l, prune(who))
			}
			w, _ = right(t, n, l)
			want, _ := state.Read(w.Nodes[0].State)
			for _, d := range w.Nodes {
				view, fault := state.Read(d.State)
				if fault.Err != api.OK || !same(view, want) || len(d.Log) > 0 || !same(d.Base, d.State.Clock) {
					t.Errorf("%d nodes: %+v reads %+v, not %+v", n, d, view, want)
				}
			}
		}
	}
}

// TestG1Longest has as many updates as can be issued, and each told to another node.
func TestG1Longest(t *testing.T) {
	var l []api.Do
	for i := range api.MaxDo - 2*(most-1) {
		l = append(l, issue(i%most, api.Count, i%16, 1+i%3))
	}
	issued := len(l)
	for who := 1; who < most; who++ {
		l = append(l, send(who, 0), deliver(who, 0))
	}
	w := checkCame(t, most, l, make([]api.Errno, api.MaxDo)...)
	sum := 0
	view, _ := state.Read(w.Nodes[0].State)
	for _, counter := range view.Counters {
		sum += counter[1]
	}
	want := 0
	for _, do := range l[:issued] {
		want += do.Update.Item
	}
	if len(w.Nodes[0].Log) != issued || sum != want {
		t.Errorf("%d updates came, and %d is counted, not %d and %d", len(w.Nodes[0].Log), sum, issued, want)
	}
}
