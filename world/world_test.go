package world

import (
	"fmt"
	"math"
	"slices"
	"testing"

	"prunewell/api"
	"prunewell/node"
	"prunewell/state"
)

const (
	most = api.MaxAuthors
	far  = api.MaxItem
)

func issue(n, kind, key, item int) api.Do {
	return api.Do{Kind: api.DoIssue, N: n, Update: api.Update{Kind: kind, Key: key, Item: item}}
}

func put(n, key, item int) api.Do { return issue(n, api.Put, key, item) }

func send(n, to int) api.Do { return api.Do{Kind: api.DoSend, N: n, To: to} }

func deliver(n, to int) api.Do { return api.Do{Kind: api.DoDeliver, N: n, To: to} }

func drop(n, to int) api.Do { return api.Do{Kind: api.DoDrop, N: n, To: to} }

func prune(n int) api.Do { return api.Do{Kind: api.DoPrune, N: n} }

func list(l ...api.Do) []api.Do { return l }

// times is do, so many times.
func times(many int, do api.Do) []api.Do { return slices.Repeat(list(do), many) }

// by is an update of an author who had seen that.
func by(author, kind, key, item int, seen ...int) api.Update {
	return api.Update{Author: author, Seen: seen, Kind: kind, Key: key, Item: item}
}

func parcel(c api.Clock, l ...api.Update) api.Parcel { return api.Parcel{Clock: c, Updates: l} }

// told tells x whole; nil and a list without entries are told alike.
func told(x any) string { return fmt.Sprintf("%+v", x) }

func same(a, b any) bool { return told(a) == told(b) }

// right plays what can be played.
func right(t *testing.T, n int, l []api.Do) (api.World, []api.Errno) {
	t.Helper()
	w, came, err := Play(n, l)
	if err != api.OK || len(came) != len(l) {
		t.Fatalf("Play(%d, %v): %v, %v come", n, l, came, err)
	}
	return w, came
}

// checkCame plays l, of which that must come.
func checkCame(t *testing.T, n int, l []api.Do, want ...api.Errno) api.World {
	t.Helper()
	w, came := right(t, n, l)
	if !slices.Equal(came, want) {
		t.Errorf("Play(%d, %v): %v come, not %v", n, l, came, want)
	}
	return w
}

// checkRefused plays l, and do behind it, which is refused and changes nothing.
func checkRefused(t *testing.T, n int, l []api.Do, do api.Do, want api.Errno) {
	t.Helper()
	before, _ := right(t, n, l)
	w, came := right(t, n, append(slices.Clone(l), do))
	if got := came[len(l)]; got != want {
		t.Errorf("%d nodes, %+v: %v comes, not %v", n, do, got, want)
	}
	if !same(w, before) {
		t.Errorf("%d nodes, %+v, which is refused: %+v comes, not %+v", n, do, w, before)
	}
}

// fresh is the world of n nodes of whom none has done anything.
func fresh(n int) api.World {
	var w api.World
	for who := range n {
		d := api.Node{Self: who, State: api.State{Clock: make(api.Clock, n)}, Base: make(api.Clock, n)}
		for range n {
			d.Known = append(d.Known, make(api.Clock, n))
		}
		w.Nodes = append(w.Nodes, d)
		w.Way = append(w.Way, make([][]api.Parcel, n))
	}
	return w
}

func TestG1Many(t *testing.T) {
	lists := [][]api.Do{nil, {}, list(prune(0)), times(api.MaxDo-1, prune(0)), times(api.MaxDo, prune(0)), times(api.MaxDo+1, prune(0)), make([]api.Do, api.MaxDo+1), make([]api.Do, 2*api.MaxDo)}
	for _, n := range []int{math.MinInt, -1, 0, 1, 2, 3, 4, 5, 6, 7, 8, math.MaxInt} {
		for _, l := range lists {
			w, came, err := Play(n, l)
			if n < 1 || n > most || len(l) > api.MaxDo {
				if err != api.ErrMany || len(came) > 0 || !same(w, api.World{}) {
					t.Errorf("%d nodes, %d things: %+v, %v, %v come", n, len(l), w, came, err)
				}
				continue
			}
			if err != api.OK || !slices.Equal(came, make([]api.Errno, len(l))) || !same(w, fresh(n)) {
				t.Errorf("%d nodes, %d things: %+v, %v, %v come", n, len(l), w, came, err)
			}
		}
	}
}

// middle is played by three nodes: all have issued, one has pruned, and parcels are on their way there and back.
func middle() []api.Do {
	return list(
		put(0, 1, 5), put(1, 1, 6), issue(2, api.Count, 3, 9),
		send(0, 1), deliver(0, 1), send(1, 0), deliver(1, 0), send(2, 0), deliver(2, 0), send(0, 2), deliver(0, 2),
		send(2, 0), deliver(2, 0), prune(0),
		issue(1, api.Add, 2, 2), send(1, 0), put(1, 1, 7), send(1, 0), send(0, 1), send(2, 1),
	)
}

// TestG1Kind has kinds that are none, whatever else stands there: they are told ahead of nodes that are none.
func TestG1Kind(t *testing.T) {
	for _, kind := range []int{math.MinInt, -1, 0, 6, 7, math.MaxInt} {
		for _, n := range []int{math.MinInt, -1, 0, 1, 3} {
			for _, to := range []int{-1, 0, 1, 3} {
				do := put(n, 1, 1)
				do.Kind, do.To = kind, to
				checkRefused(t, 3, middle(), do, api.ErrKind)
			}
		}
	}
}

// TestG1Nodes has all pairs of nodes, some of them none. Nothing is on its way in a fresh world.
func TestG1Nodes(t *testing.T) {
	numbers := []int{math.MinInt, -2, -1, 0, 1, 2, 3, 4, 5, 6, 7, math.MaxInt}
	for many := 1; many <= most; many++ {
		isNone := func(who int) bool { return who < 0 || who >= many }
		for _, n := range numbers {
			for _, to := range numbers {
				for kind := api.DoIssue; kind <= api.DoPrune; kind++ {
					do := put(n, 1, 1)
					do.Kind, do.To = kind, to
					alone := kind == api.DoIssue || kind == api.DoPrune
					switch {
					case isNone(n) || !alone && isNone(to):
						checkRefused(t, many, nil, do, api.ErrNone)
					case alone || kind == api.DoSend && n != to:
						checkCame(t, many, list(do), api.OK)
					case n == to:
						checkRefused(t, many, nil, do, api.ErrFit)
					default:
						checkRefused(t, many, nil, do, api.ErrNone)
					}
				}
			}
		}
	}
}

// TestG1Refused has things that are refused in a world in which much has happened.
func TestG1Refused(t *testing.T) {
	for _, x := range []struct {
		do   api.Do
		want api.Errno
	}{
		{put(3, 1, 1), api.ErrNone},
		{put(-1, 1, 1), api.ErrNone},
		{issue(3, 9, 1, 1), api.ErrNone},
		{prune(3), api.ErrNone},
		{prune(-1), api.ErrNone},
		{send(0, 3), api.ErrNone},
		{send(3, 0), api.ErrNone},
		{send(3, 3), api.ErrNone},
		{send(-1, -1), api.ErrNone},
		{send(1, 1), api.ErrFit},
		{deliver(1, 3), api.ErrNone},
		{deliver(-1, 0), api.ErrNone},
		{deliver(3, 3), api.ErrNone},
		{deliver(2, 2), api.ErrFit},
		{deliver(0, 2), api.ErrNone},
		{deliver(1, 2), api.ErrNone},
		{drop(1, 3), api.ErrNone},
		{drop(-1, 0), api.ErrNone},
		{drop(3, 3), api.ErrNone},
		{drop(0, 0), api.ErrFit},
		{drop(0, 2), api.ErrNone},
		{drop(2, 0), api.ErrNone},
	} {
		checkRefused(t, 3, middle(), x.do, x.want)
	}
}

// TestG1WrongUpdates has updates that a node refuses to issue.
func TestG1WrongUpdates(t *testing.T) {
	for _, x := range []struct {
		kind, key, item int
		want            api.Errno
	}{
		{0, 1, 1, api.ErrKind},
		{6, 1, 1, api.ErrKind},
		{-1, -1, 1, api.ErrKind},
		{math.MaxInt, 1, 1, api.ErrKind},
		{api.Put, -1, 1, api.ErrRange},
		{api.Put, api.MaxKey + 1, 1, api.ErrRange},
		{api.Count, 1, far + 1, api.ErrRange},
		{api.Count, 1, -far - 1, api.ErrRange},
		{api.Add, math.MinInt, 1, api.ErrRange},
		{api.Remove, 1, math.MinInt, api.ErrRange},
		{api.Clear, 1, far + 1, api.ErrRange},
		{api.Clear, 1, 1, api.ErrForm},
	} {
		for who := range 3 {
			checkRefused(t, 3, middle(), issue(who, x.kind, x.key, x.item), x.want)
		}
	}
}

// TestG1Issue has a node's own number and what it has seen in each update, whatever was handed in there.
func TestG1Issue(t *testing.T) {
	one, two := put(1, 4, 8), put(1, 4, 9)
	one.To, one.Update.Author, one.Update.Seen = 77, 5, api.Clock{9, 9, 9, 9, 9, 9, 9}
	two.To, two.Update.Author = -1, math.MinInt
	got := checkCame(t, 2, list(one, two), api.OK, api.OK)
	want := fresh(2)
	want.Nodes[1] = api.Node{
		Self:  1,
		State: api.State{Clock: api.Clock{0, 2}, Lives: []api.Live{{Key: 4, Item: 9, Author: 1, Seq: 2}}},
		Base:  api.Clock{0, 0},
		Log:   []api.Update{by(1, api.Put, 4, 8, 0, 0), by(1, api.Put, 4, 9, 0, 1)},
		Known: []api.Clock{{0, 0}, {0, 2}},
	}
	if !same(got, want) {
		t.Errorf("%+v comes, not %+v", got, want)
	}
}

// TestG1Send has parcels stand behind one another, each as the sender was when it was sent, and the sender as it was.
func TestG1Send(t *testing.T) {
	got := checkCame(t, 3, list(send(0, 2), put(0, 1, 5), send(0, 2), send(0, 1), put(0, 2, 6), send(0, 2)), make([]api.Errno, 6)...)
	want := checkCame(t, 3, list(put(0, 1, 5), put(0, 2, 6)), api.OK, api.OK)
	one, two := by(0, api.Put, 1, 5, 0, 0, 0), by(0, api.Put, 2, 6, 1, 0, 0)
	want.Way[0][1] = []api.Parcel{parcel(api.Clock{1, 0, 0}, one)}
	want.Way[0][2] = []api.Parcel{parcel(api.Clock{0, 0, 0}), parcel(api.Clock{1, 0, 0}, one), parcel(api.Clock{2, 0, 0}, one, two)}
	if !same(got, want) {
		t.Errorf("%+v comes, not %+v", got, want)
	}
}

// TestG1Way has a way that is full: of one pair alone, in one direction, until a parcel is gone.
func TestG1Way(t *testing.T) {
	full := times(api.MaxWay, send(0, 1))
	if w := checkCame(t, 3, full, make([]api.Errno, api.MaxWay)...); len(w.Way[0][1]) != api.MaxWay {
		t.Errorf("%d are on their way", len(w.Way[0][1]))
	}
	checkRefused(t, 3, full, send(0, 1), api.ErrMany)
	for _, do := range list(send(1, 0), send(0, 2), send(2, 1), put(0, 1, 1), prune(0), deliver(0, 1), drop(0, 1)) {
		if _, came := right(t, 3, append(slices.Clone(full), do)); came[api.MaxWay] != api.OK {
			t.Errorf("%+v is refused: %v", do, came[api.MaxWay])
		}
	}
	for _, gone := range list(deliver(0, 1), drop(0, 1)) {
		l := append(slices.Clone(full), gone, send(0, 1))
		if w := checkCame(t, 3, l, make([]api.Errno, len(l))...); len(w.Way[0][1]) != api.MaxWay {
			t.Errorf("%d are on their way", len(w.Way[0][1]))
		}
		checkRefused(t, 3, l, send(0, 1), api.ErrMany)
	}
	// The node does not count: it is the way that is full.
	checkRefused(t, 3, append(slices.Clone(full), put(0, 1, 1)), send(0, 1), api.ErrMany)
}

// TestG1Deliver has what was issued, sent, and came read at the other node. The first parcel comes first.
func TestG1Deliver(t *testing.T) {
	l := list(put(0, 1, 5), send(0, 1), put(0, 1, 6), send(0, 1))
	for came, want := range [][]int{nil, {5}, {6}} {
		w, _ := right(t, 2, append(slices.Clone(l), times(came, deliver(0, 1))...))
		view, fault := state.Read(w.Nodes[1].State)
		wantView := api.View{}
		if want != nil {
			wantView.Registers = []api.Cell{{Key: 1, Items: want}}
		}
		if fault.Err != api.OK || !same(view, wantView) || len(w.Way[0][1]) != 2-came {
			t.Errorf("when %d came: %+v is read, not %+v, with %v on the way", came, view, wantView, w.Way[0][1])
		}
	}
	all := append(slices.Clone(l), times(2, deliver(0, 1))...)
	checkRefused(t, 2, all, deliver(0, 1), api.ErrNone)
	checkRefused(t, 2, all, drop(0, 1), api.ErrNone)
	checkRefused(t, 2, l, deliver(1, 0), api.ErrNone)
	w, _ := right(t, 2, all)
	want := fresh(2)
	before, _ := right(t, 2, l)
	want.Nodes[0] = before.Nodes[0]
	want.Nodes[1] = api.Node{
		Self:  1,
		State: before.Nodes[0].State,
		Base:  api.Clock{0, 0},
		Log:   before.Nodes[0].Log,
		Known: []api.Clock{{2, 0}, {2, 0}},
	}
	if !same(w, want) {
		t.Errorf("%+v comes, not %+v", w, want)
	}
}

// TestG1Drop has the first parcel lost, and no node changed.
func TestG1Drop(t *testing.T) {
	l := list(put(0, 1, 5), send(0, 1), put(0, 1, 6), send(0, 1), send(1, 0))
	for lost := range 3 {
		got, came := right(t, 2, append(slices.Clone(l), times(lost, drop(0, 1))...))
		want, _ := right(t, 2, l)
		want.Way[0][1] = want.Way[0][1][lost:]
		if !same(got, want) || slices.Max(came) != api.OK {
			t.Errorf("when %d are lost: %+v, %v come, not %+v", lost, got, came, want)
		}
	}
	checkRefused(t, 2, append(slices.Clone(l), times(2, drop(0, 1))...), drop(0, 1), api.ErrNone)
	checkRefused(t, 2, append(slices.Clone(l), times(2, drop(0, 1))...), deliver(0, 1), api.ErrNone)
}

// TestG1Prune has a node forget what it knows that all have, and no other one.
func TestG1Prune(t *testing.T) {
	l := list(put(0, 1, 5), send(0, 1), deliver(0, 1), send(1, 0), deliver(1, 0))
	before, _ := right(t, 2, l)
	do := prune(0)
	do.To, do.Update = 99, api.Update{Author: 7, Kind: 9, Key: -1}
	got, came := right(t, 2, append(slices.Clone(l), do))
	want := before
	want.Nodes[0].Base, want.Nodes[0].Log = api.Clock{1, 0}, nil
	if came[len(l)] != api.OK || !same(got, want) {
		t.Errorf("%+v, %v come, not %+v", got, came, want)
	}
	// Node 1 knows as much: 0 told that it has it.
	got, _ = right(t, 2, append(slices.Clone(l), do, prune(1)))
	want.Nodes[1].Base, want.Nodes[1].Log = api.Clock{1, 0}, nil
	if !same(got, want) {
		t.Errorf("%+v comes, not %+v", got, want)
	}
	if w, came := right(t, 2, append(slices.Clone(l[:1]), prune(0))); came[1] != api.OK || len(w.Nodes[0].Log) != 1 {
		t.Errorf("%+v, %v come: it forgot what only one has", w, came)
	}
}

// TestG1Middle has each thing that happens in one world, and the world then.
func TestG1Middle(t *testing.T) {
	got := checkCame(t, 3, middle(), make([]api.Errno, len(middle()))...)
	want := fresh(3)
	seen := api.Clock{1, 1, 1}
	five, six, nine := by(0, api.Put, 1, 5, 0, 0, 0), by(1, api.Put, 1, 6, 0, 0, 0), by(2, api.Count, 3, 9, 0, 0, 0)
	two, seven := by(1, api.Add, 2, 2, 1, 1, 0), by(1, api.Put, 1, 7, 1, 2, 0)
	tallies := []api.Tally{{Key: 3, Author: 2, Sum: 9}}
	both := []api.Live{{Key: 1, Item: 5, Author: 0, Seq: 1}, {Key: 1, Item: 6, Author: 1, Seq: 1}}
	want.Nodes[0] = api.Node{
		State: api.State{Clock: seen, Lives: both, Tallies: tallies},
		Base:  api.Clock{1, 1, 0}, Log: []api.Update{nine},
		Known: []api.Clock{seen, {1, 1, 0}, seen},
	}
	want.Nodes[1] = api.Node{
		Self:  1,
		State: api.State{Clock: api.Clock{1, 3, 0}, Lives: []api.Live{{Key: 1, Item: 7, Author: 1, Seq: 3}, {Set: true, Key: 2, Item: 2, Author: 1, Seq: 2}}},
		Base:  api.Clock{0, 0, 0}, Log: []api.Update{six, five, two, seven},
		Known: []api.Clock{{1, 0, 0}, {1, 3, 0}, {0, 0, 0}},
	}
	want.Nodes[2] = api.Node{
		Self:  2,
		State: api.State{Clock: seen, Lives: both, Tallies: tallies},
		Base:  api.Clock{0, 0, 0}, Log: []api.Update{nine, five, six},
		Known: []api.Clock{seen, {0, 0, 0}, seen},
	}
	want.Way[0][1] = []api.Parcel{parcel(seen, nine)}
	want.Way[1][0] = []api.Parcel{parcel(api.Clock{1, 2, 0}, six, two), parcel(api.Clock{1, 3, 0}, six, two, seven)}
	want.Way[2][1] = []api.Parcel{parcel(seen, nine, five, six)}
	if !same(got, want) {
		t.Errorf("%+v comes, not %+v", got, want)
	}
}

// TestG1Gone has parcels on their way that nobody takes, which no node sends: they are refused, gone, and change no node.
func TestG1Gone(t *testing.T) {
	for _, x := range []struct {
		p    api.Parcel
		want api.Errno
	}{
		{api.Parcel{}, api.ErrMany},
		{parcel(api.Clock{0, 0, 0}), api.ErrMany},
		{parcel(api.Clock{0, -1}), api.ErrRange},
		{parcel(api.Clock{0, 1}), api.ErrEarly},
		{parcel(api.Clock{0, 0}, by(0, api.Put, 1, 1, 1, 0)), api.ErrEarly},
		{parcel(api.Clock{2, 0}, by(0, api.Put, 1, 1, 0, 0), by(0, 9, 1, 1, 1, 0)), api.ErrKind},
		{api.Parcel{Whole: true, Clock: api.Clock{0, 0}, State: api.State{Clock: api.Clock{0, 0}, Tallies: []api.Tally{{Key: 1}}}}, api.ErrRange},
	} {
		w := begin(2)
		next := parcel(api.Clock{0, 0})
		w.Way[0][1] = []api.Parcel{x.p, next}
		want := fresh(2)
		want.Way[0][1] = []api.Parcel{next}
		if err := w.happen(deliver(0, 1)); err != x.want || !same(w.World, want) {
			t.Errorf("%+v: %v comes, not %v, and %+v", x.p, err, x.want, w.World)
		}
	}
}

// TestG1Wrong has a node that is wrong, as none is of itself: nothing is sent, and nothing comes of it.
func TestG1Wrong(t *testing.T) {
	for _, do := range list(put(0, 1, 1), send(0, 1), prune(0), deliver(1, 0)) {
		w := begin(2)
		w.Way[1][0] = []api.Parcel{parcel(api.Clock{0, 0})}
		w.Nodes[0].Known = nil
		want := fresh(2)
		want.Nodes[0].Known = nil
		if do.Kind != api.DoDeliver {
			want.Way[1][0] = w.Way[1][0]
		}
		if err := w.happen(do); err != api.ErrFit || !same(w.World, want) {
			t.Errorf("%+v: %v comes, and %+v", do, err, w.World)
		}
	}
}

// TestG1Whole has a node that pruned what it does not know the other one to have: the parcel is whole, and it is taken.
func TestG1Whole(t *testing.T) {
	w := begin(2)
	w.happen(put(0, 1, 5))
	w.Nodes[0].Known[1] = api.Clock{1, 0}
	w.happen(prune(0))
	w.Nodes[0].Known[1] = api.Clock{0, 0}
	for _, do := range list(send(0, 1), deliver(0, 1)) {
		if err := w.happen(do); err != api.OK {
			t.Fatalf("%+v: %v comes", do, err)
		}
	}
	d := w.Nodes[1]
	if !same(d.State, w.Nodes[0].State) || !same(d.Base, api.Clock{1, 0}) || len(d.Log) > 0 || node.Wrong(d) != api.OK {
		t.Errorf("%+v comes", d)
	}
}
