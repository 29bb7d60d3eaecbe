package node

import (
	"fmt"
	"math"
	"slices"
	"testing"

	"prunewell/api"
	"prunewell/clock"
	"prunewell/state"
)

const (
	last = api.MaxSeq
	most = api.MaxAuthors
	far  = api.MaxItem
	full = api.MaxLog
)

// by is an update of an author who had seen that.
func by(author, kind, key, item int, seen ...int) api.Update {
	return api.Update{Author: author, Seen: seen, Kind: kind, Key: key, Item: item}
}

func put(key, item int) api.Update { return api.Update{Kind: api.Put, Key: key, Item: item} }

// register is a live of a register.
func register(key, item, author, seq int) api.Live {
	return api.Live{Key: key, Item: item, Author: author, Seq: seq}
}

func list(l ...api.Update) []api.Update { return l }

func clocks(l ...api.Clock) []api.Clock { return l }

// told tells x whole; nil and a list without entries are told alike.
func told(x any) string { return fmt.Sprint(x) }

func same(a, b any) bool { return told(a) == told(b) }

func checkNode(t *testing.T, name string, got api.Node, err api.Errno, want api.Node) {
	t.Helper()
	if err != api.OK || !same(got, want) {
		t.Errorf("%s: %v, %v comes, not %v", name, got, err, want)
	}
	if again := Wrong(got); again != api.OK {
		t.Errorf("%s: %v is wrong: %v", name, got, again)
	}
}

func checkParcel(t *testing.T, name string, got api.Parcel, err api.Errno, want api.Parcel) {
	t.Helper()
	if err != api.OK || !same(got, want) {
		t.Errorf("%s: %v, %v comes, not %v", name, got, err, want)
	}
}

func checkNoNode(t *testing.T, name string, got api.Node, err, want api.Errno) {
	t.Helper()
	if err != want || !same(got, api.Node{}) {
		t.Errorf("%s: %v, %v comes, not %v alone", name, got, err, want)
	}
}

func checkNoParcel(t *testing.T, name string, got api.Parcel, err, want api.Errno) {
	t.Helper()
	if err != want || !same(got, api.Parcel{}) {
		t.Errorf("%s: %v, %v comes, not %v alone", name, got, err, want)
	}
}

// must is what came, where nothing is wrong.
func must[T any](t *testing.T) func(x T, err api.Errno) T {
	return func(x T, err api.Errno) T {
		t.Helper()
		if err != api.OK {
			t.Fatalf("refused: %v", err)
		}
		return x
	}
}

func start(t *testing.T, self, n int) api.Node {
	t.Helper()
	return must[api.Node](t)(Start(self, n))
}

// issued is d with so many updates of its own behind it.
func issued(t *testing.T, d api.Node, many int) api.Node {
	t.Helper()
	for i := range many {
		d = must[api.Node](t)(Issue(d, api.Update{Kind: api.Count, Key: i % 3, Item: 1}))
	}
	return d
}

// middle is a node of three that has pruned, has a log, and knows of the others less than it has seen itself.
func middle() api.Node {
	return api.Node{
		Self: 1,
		State: api.State{
			Clock:   api.Clock{2, 2, 1},
			Lives:   []api.Live{register(1, 5, 0, 1), register(1, 7, 1, 1), register(2, 6, 0, 2)},
			Tallies: []api.Tally{{Key: 4, Author: 1, Sum: 3}, {Key: 4, Author: 2, Sum: -2}},
		},
		Base: api.Clock{1, 0, 1},
		Log: list(
			by(1, api.Put, 1, 7, 0, 0, 0),
			by(0, api.Put, 2, 6, 1, 0, 1),
			by(1, api.Count, 4, 3, 2, 1, 1)),
		Known: clocks(api.Clock{2, 1, 1}, api.Clock{2, 2, 1}, api.Clock{1, 0, 0}),
	}
}

func TestF1Start(t *testing.T) {
	for _, n := range []int{math.MinInt, -1, 0, 1, 2, 3, 4, 5, 6, 7, math.MaxInt} {
		for _, self := range []int{math.MinInt, -1, 0, 1, 2, 3, 4, 5, 6, 7, math.MaxInt} {
			got, err := Start(self, n)
			name := fmt.Sprintf("Start(%d, %d)", self, n)
			if n < 1 || n > most {
				checkNoNode(t, name, got, err, api.ErrMany)
				continue
			}
			if self < 0 || self >= n {
				checkNoNode(t, name, got, err, api.ErrRange)
				continue
			}
			want := api.Node{Self: self, State: api.State{Clock: make(api.Clock, n)}, Base: make(api.Clock, n)}
			for range n {
				want.Known = append(want.Known, make(api.Clock, n))
			}
			checkNode(t, name, got, err, want)
		}
	}
}

func TestF1Right(t *testing.T) {
	one := func(self int, seen ...int) api.Node {
		d := api.Node{Self: self, State: api.State{Clock: seen}, Base: seen}
		for range seen {
			d.Known = append(d.Known, seen)
		}
		return d
	}
	nothingKnown := middle()
	nothingKnown.Known[0], nothingKnown.Known[2] = api.Clock{0, 0, 0}, api.Clock{0, 0, 0}
	allKnown := middle()
	allKnown.Known[0], allKnown.Known[2] = api.Clock{2, 2, 1}, api.Clock{2, 2, 1}
	longest := issued(t, start(t, 0, 1), full)
	for _, d := range []api.Node{
		middle(), nothingKnown, allKnown, longest,
		one(0, 0), one(0, last), one(5, 0, 0, 0, 0, 0, 0), one(0, last, last, last, last, last, last), one(1, 3, 0),
	} {
		if err := Wrong(d); err != api.OK {
			t.Errorf("Wrong(%v) = %v", d, err)
		}
	}
}

// fault is a change that makes middle() wrong, and what is told of it.
type fault struct {
	name   string
	change func(d *api.Node)
	want   api.Errno
}

// faults are in the order in which they are to be told.
func faults() []fault {
	return []fault{
		{"state's clock: many", func(d *api.Node) { d.State.Clock = make(api.Clock, most+1) }, api.ErrMany},
		{"state's clock: range", func(d *api.Node) { d.State.Clock[2] = last + 1 }, api.ErrRange},
		{"state's lives: early", func(d *api.Node) { d.State.Lives[0].Seq = 9 }, api.ErrEarly},
		{"state's lives: form", func(d *api.Node) { d.State.Lives[2] = d.State.Lives[1] }, api.ErrForm},
		{"state's tallies: range", func(d *api.Node) { d.State.Tallies[1].Sum = 0 }, api.ErrRange},
		{"self: above", func(d *api.Node) { d.Self = 3 }, api.ErrRange},
		{"self: below", func(d *api.Node) { d.Self = -1 }, api.ErrRange},
		{"base: few", func(d *api.Node) { d.Base = d.Base[:2] }, api.ErrMany},
		{"base: none", func(d *api.Node) { d.Base = nil }, api.ErrMany},
		{"base: range", func(d *api.Node) { d.Base[0] = -1 }, api.ErrRange},
		{"log: many", func(d *api.Node) { d.Log = make([]api.Update, full+1) }, api.ErrMany},
		{"log: kind", func(d *api.Node) { d.Log[0].Kind = 6 }, api.ErrKind},
		{"log: form", func(d *api.Node) { d.Log[1].Kind = api.Clear }, api.ErrForm},
		{"log: seen", func(d *api.Node) { d.Base[1] = 1 }, api.ErrFit},
		{"log: early", func(d *api.Node) { d.Base[0] = 0 }, api.ErrEarly},
		{"clock: less", func(d *api.Node) { d.Log = d.Log[:len(d.Log)-1] }, api.ErrFit},
		{"clock: more", func(d *api.Node) { d.Base[2] = 2 }, api.ErrFit},
		{"known: few", func(d *api.Node) { d.Known = d.Known[:2] }, api.ErrFit},
		{"known: many", func(d *api.Node) { d.Known = append(d.Known, api.Clock{0, 0, 0}) }, api.ErrFit},
		{"known: none", func(d *api.Node) { d.Known = nil }, api.ErrFit},
		{"known 0: few", func(d *api.Node) { d.Known[0] = d.Known[0][:2] }, api.ErrMany},
		{"known 0: many", func(d *api.Node) { d.Known[0] = append(d.Known[0], 0) }, api.ErrMany},
		{"known 0: below", func(d *api.Node) { d.Known[0][1] = -1 }, api.ErrRange},
		{"known 0: above", func(d *api.Node) { d.Known[0][1] = last + 1 }, api.ErrRange},
		{"known 0: not seen", func(d *api.Node) { d.Known[0][2] = 2 }, api.ErrFit},
		{"known 1: none", func(d *api.Node) { d.Known[1] = nil }, api.ErrMany},
		{"known 1: not seen", func(d *api.Node) { d.Known[1][0] = 3 }, api.ErrFit},
		{"known 1, self: less", func(d *api.Node) { d.Known[1][0] = 1 }, api.ErrFit},
		{"known 2: few", func(d *api.Node) { d.Known[2] = d.Known[2][:1] }, api.ErrMany},
		{"known 2: below", func(d *api.Node) { d.Known[2][0] = -1 }, api.ErrRange},
		{"known 2: not seen", func(d *api.Node) { d.Known[2][0] = 3 }, api.ErrFit},
	}
}

func TestF1Wrong(t *testing.T) {
	for _, x := range faults() {
		d := middle()
		x.change(&d)
		if err := Wrong(d); err != x.want {
			t.Errorf("%s: Wrong(%v) = %v, not %v", x.name, d, err, x.want)
		}
	}
}

// TestF1WrongFirst has two faults at once, at different places, either one made first: the one ahead is told.
func TestF1WrongFirst(t *testing.T) {
	at := func(name string) func(d *api.Node) {
		i := slices.IndexFunc(faults(), func(x fault) bool { return x.name == name })
		return faults()[i].change
	}
	for _, x := range []struct {
		ahead, behind string
		want          api.Errno
	}{
		{"state's lives: early", "self: above", api.ErrEarly},
		{"state's lives: early", "base: none", api.ErrEarly},
		{"state's tallies: range", "known: none", api.ErrRange},
		{"state's clock: range", "log: kind", api.ErrRange},
		{"self: below", "base: none", api.ErrRange},
		{"self: above", "log: early", api.ErrRange},
		{"self: above", "clock: less", api.ErrRange},
		{"self: above", "known: few", api.ErrRange},
		{"self: above", "known 0: few", api.ErrRange},
		{"base: few", "log: kind", api.ErrMany},
		{"base: range", "log: many", api.ErrRange},
		{"base: none", "known: none", api.ErrMany},
		{"log: kind", "log: form", api.ErrKind},
		{"log: kind", "known: none", api.ErrKind},
		{"log: early", "known 0: few", api.ErrEarly},
		{"log: many", "clock: more", api.ErrMany},
		{"clock: less", "known 0: few", api.ErrFit},
		{"clock: more", "known 0: below", api.ErrFit},
		{"known: few", "known 0: few", api.ErrFit},
		{"known: many", "known 0: below", api.ErrFit},
		{"known 0: few", "known 2: below", api.ErrMany},
		{"known 0: below", "known 1: none", api.ErrRange},
		{"known 0: not seen", "known 1: none", api.ErrFit},
		{"known 0: not seen", "known 2: below", api.ErrFit},
		{"known 0: not seen", "known 0: below", api.ErrRange},
		{"known 1: none", "known 2: below", api.ErrMany},
		{"known 1, self: less", "known 2: below", api.ErrFit},
		{"known 1, self: less", "known 2: few", api.ErrFit},
	} {
		one, other := middle(), middle()
		at(x.ahead)(&one)
		at(x.behind)(&one)
		at(x.behind)(&other)
		at(x.ahead)(&other)
		for _, d := range []api.Node{one, other} {
			if err := Wrong(d); err != x.want {
				t.Errorf("%s and %s: Wrong(%v) = %v, not %v", x.ahead, x.behind, d, err, x.want)
			}
		}
	}
}

// TestF1WrongFew has a state's clock without entries, and one of fewer authors than all else.
func TestF1WrongFew(t *testing.T) {
	if err := Wrong(api.Node{}); err != api.ErrMany {
		t.Errorf("Wrong of nothing is %v", err)
	}
	for _, x := range []struct {
		many int
		want api.Errno
	}{{0, api.ErrMany}, {1, api.ErrRange}, {2, api.ErrMany}} {
		d := start(t, 1, 3)
		d.State.Clock = d.State.Clock[:x.many]
		if err := Wrong(d); err != x.want {
			t.Errorf("Wrong(%v) = %v, not %v", d, err, x.want)
		}
	}
}

// TestF1OthersBeginWithWrong hands wrong nodes to all others, beside other things that are wrong.
func TestF1OthersBeginWithWrong(t *testing.T) {
	bad := api.Update{Kind: 9, Key: -1}
	for _, x := range faults() {
		d := middle()
		x.change(&d)
		for _, u := range []api.Update{put(1, 1), bad} {
			got, err := Issue(d, u)
			checkNoNode(t, x.name+", Issue", got, err, x.want)
		}
		for _, who := range []int{-1, 0, 1, 2, 3} {
			p, err := Send(d, who)
			checkNoParcel(t, x.name+", Send", p, err, x.want)
			for _, q := range []api.Parcel{{Clock: api.Clock{0, 0, 0}}, {}, {Whole: true, Clock: api.Clock{9, 9, 9}, Updates: list(bad)}} {
				got, err := Take(d, who, q)
				checkNoNode(t, x.name+", Take", got, err, x.want)
			}
		}
		got, err := Prune(d)
		checkNoNode(t, x.name+", Prune", got, err, x.want)
	}
}

func TestF2Issue(t *testing.T) {
	d := middle()
	seen := api.Clock{2, 2, 1}
	for _, x := range []struct {
		name    string
		u       api.Update
		lives   []api.Live
		tallies []api.Tally
	}{
		{"put", api.Update{Kind: api.Put, Key: 1, Item: 9}, []api.Live{register(1, 9, 1, 3), register(2, 6, 0, 2)}, d.State.Tallies},
		{"clear", api.Update{Kind: api.Clear, Key: 2}, d.State.Lives[:2], d.State.Tallies},
		{"add", api.Update{Kind: api.Add, Key: 15, Item: -far}, append(middle().State.Lives, api.Live{Set: true, Key: 15, Item: -far, Author: 1, Seq: 3}), d.State.Tallies},
		{"remove", api.Update{Kind: api.Remove, Key: 0, Item: far}, d.State.Lives, d.State.Tallies},
		{"count", api.Update{Kind: api.Count, Key: 4, Item: -3}, d.State.Lives, d.State.Tallies[1:]},
		{"another's", api.Update{Author: 2, Seen: api.Clock{0, 0, 0}, Kind: api.Clear, Key: 2}, d.State.Lives[:2], d.State.Tallies},
		{"no one's", api.Update{Author: -7, Seen: api.Clock{-1}, Kind: api.Clear, Key: 2}, d.State.Lives[:2], d.State.Tallies},
	} {
		want := middle()
		want.State = api.State{Clock: api.Clock{2, 3, 1}, Lives: x.lives, Tallies: x.tallies}
		want.Log = append(want.Log, by(1, x.u.Kind, x.u.Key, x.u.Item, seen...))
		want.Known[1] = api.Clock{2, 3, 1}
		got, err := Issue(d, x.u)
		checkNode(t, x.name, got, err, want)
	}
}

func TestF2IssueRefused(t *testing.T) {
	d := middle()
	for _, x := range []struct {
		u    api.Update
		want api.Errno
	}{
		{api.Update{Kind: 0}, api.ErrKind},
		{api.Update{Kind: 6, Key: -1}, api.ErrKind},
		{put(-1, 0), api.ErrRange},
		{put(16, 0), api.ErrRange},
		{put(0, far+1), api.ErrRange},
		{put(0, -far-1), api.ErrRange},
		{api.Update{Kind: api.Clear, Item: 1}, api.ErrForm},
	} {
		got, err := Issue(d, x.u)
		checkNoNode(t, told(x.u), got, err, x.want)
	}
}

// TestF2IssueMost has an author's last update, and one more.
func TestF2IssueMost(t *testing.T) {
	d := start(t, 0, 1)
	d.State.Clock[0], d.Base[0], d.Known[0][0] = last-1, last-1, last-1
	d = must[api.Node](t)(Issue(d, put(0, 1)))
	if d.State.Clock[0] != last || len(d.Log) != 1 {
		t.Errorf("%v comes", d)
	}
	got, err := Issue(d, put(0, 1))
	checkNoNode(t, "one more than an author may have", got, err, api.ErrRange)
}

// TestF2IssueFull has as many updates in the log as may stand there.
func TestF2IssueFull(t *testing.T) {
	d := issued(t, start(t, 0, 2), full-1)
	d = issued(t, d, 1)
	if len(d.Log) != full || Wrong(d) != api.OK {
		t.Errorf("a log of %d is wrong: %v", len(d.Log), Wrong(d))
	}
	for _, u := range []api.Update{put(0, 1), {Kind: 9}} {
		got, err := Issue(d, u)
		checkNoNode(t, "a full log", got, err, api.ErrMany)
	}
	d.Known[1] = clock.Copy(d.Known[0])
	d = issued(t, must[api.Node](t)(Prune(d)), 1)
	if len(d.Log) != 1 || d.State.Clock[0] != full+1 {
		t.Errorf("after pruning %v comes", d)
	}
}

func TestF2Send(t *testing.T) {
	d := middle()
	seen := d.State.Clock
	for _, x := range []struct {
		name  string
		base  api.Clock
		log   []api.Update
		known api.Clock
		want  api.Parcel
	}{
		{"what lacks, as it stands", d.Base, d.Log, api.Clock{1, 1, 1}, api.Parcel{Updates: d.Log[1:], Clock: seen}},
		{"one between", d.Base, d.Log, api.Clock{2, 0, 1}, api.Parcel{Updates: list(d.Log[0], d.Log[2]), Clock: seen}},
		{"just the base", d.Base, d.Log, d.Base, api.Parcel{Updates: d.Log, Clock: seen}},
		{"nothing lacks", d.Base, d.Log, seen, api.Parcel{Clock: seen}},
		{"nothing known", d.Base, d.Log, api.Clock{0, 0, 0}, api.Parcel{Whole: true, State: d.State, Clock: seen}},
		{"one less than the base", d.Base, d.Log, api.Clock{2, 2, 0}, api.Parcel{Whole: true, State: d.State, Clock: seen}},
		{"less than the base, of another", d.Base, d.Log, api.Clock{0, 2, 1}, api.Parcel{Whole: true, State: d.State, Clock: seen}},
		{"all pruned, nothing lacks", seen, nil, seen, api.Parcel{Clock: seen}},
		{"all pruned", seen, nil, api.Clock{2, 1, 1}, api.Parcel{Whole: true, State: d.State, Clock: seen}},
	} {
		for _, to := range []int{0, 2} {
			e := middle()
			e.Base, e.Log, e.Known[to] = x.base, x.log, x.known
			got, err := Send(e, to)
			checkParcel(t, x.name, got, err, x.want)
		}
	}
}

// TestF2SendAll is example 6: what a node sends to who knows nothing is all its log.
func TestF2SendAll(t *testing.T) {
	d := issued(t, start(t, 1, 2), 5)
	got, err := Send(d, 0)
	checkParcel(t, "all", got, err, api.Parcel{Updates: d.Log, Clock: api.Clock{0, 5}})
	got, err = Send(start(t, 1, 2), 0)
	checkParcel(t, "nothing", got, err, api.Parcel{Clock: api.Clock{0, 0}})
}

// others are numbers of nodes that a node of three can't talk to, for self 1.
func others() []struct {
	who  int
	want api.Errno
} {
	return []struct {
		who  int
		want api.Errno
	}{{-1, api.ErrNone}, {3, api.ErrNone}, {math.MinInt, api.ErrNone}, {math.MaxInt, api.ErrNone}, {1, api.ErrFit}}
}

func TestF2SendRefused(t *testing.T) {
	for _, x := range others() {
		got, err := Send(middle(), x.who)
		checkNoParcel(t, told(x.who), got, err, x.want)
	}
	for who := -1; who < 3; who++ {
		want := api.ErrNone
		if who == 0 {
			want = api.ErrFit
		}
		got, err := Send(start(t, 0, 1), who)
		checkNoParcel(t, "alone", got, err, want)
	}
}

// TestF2Example7 has what was issued, sent, and came: it is read at the other node.
func TestF2Example7(t *testing.T) {
	a := must[api.Node](t)(Issue(start(t, 0, 2), put(3, 8)))
	b := must[api.Node](t)(Take(start(t, 1, 2), 0, must[api.Parcel](t)(Send(a, 1))))
	view, fault := state.Read(b.State)
	if want := (api.View{Registers: []api.Cell{{Key: 3, Items: []int{8}}}}); fault.Err != api.OK || !same(view, want) {
		t.Errorf("%v, %v is read, not %v", view, fault, want)
	}
}

func TestF3TakeUpdates(t *testing.T) {
	d := middle()
	add := by(0, api.Add, 3, 1, 2, 1, 1)
	rest := by(2, api.Put, 2, 4, 3, 1, 1)
	live := api.Live{Set: true, Key: 3, Item: 1, Author: 0, Seq: 3}
	with := func(c api.Clock, known0 api.Clock, l []api.Live, u ...api.Update) api.Node {
		out := middle()
		out.State.Clock, out.State.Lives = c, l
		out.Log = append(out.Log, u...)
		out.Known[0], out.Known[1] = known0, c
		return out
	}
	one := with(api.Clock{3, 2, 1}, api.Clock{3, 1, 1}, append(middle().State.Lives, live), add)
	two := with(api.Clock{3, 2, 2}, api.Clock{3, 1, 2}, append(middle().State.Lives[:2:2], register(2, 4, 2, 2), live), add, rest)
	for _, x := range []struct {
		name string
		p    api.Parcel
		want api.Node
	}{
		{"one", api.Parcel{Updates: list(add), Clock: api.Clock{3, 1, 1}}, one},
		{"two", api.Parcel{Updates: list(add, rest), Clock: api.Clock{3, 1, 2}}, two},
		{"twice in one", api.Parcel{Updates: list(add, add, rest, add), Clock: api.Clock{3, 1, 2}}, two},
		{"some that were seen", api.Parcel{Updates: list(d.Log[1], add, d.Log[0], rest), Clock: api.Clock{3, 1, 2}}, two},
		{"one that was pruned", api.Parcel{Updates: list(by(0, api.Put, 1, 5, 0, 0, 0), add), Clock: api.Clock{3, 1, 1}}, one},
		{"one that was seen, but another one", api.Parcel{Updates: list(by(0, api.Add, 9, 9, 1, 2, 1), add), Clock: api.Clock{3, 1, 1}}, one},
		{"one that was seen, who saw what is not there", api.Parcel{Updates: list(by(0, api.Add, 9, 9, 1, 0, 9), add), Clock: api.Clock{3, 1, 1}}, one},
		{"no state", api.Parcel{State: api.State{Clock: api.Clock{-1}}, Updates: list(add), Clock: api.Clock{3, 1, 1}}, one},
		{"a state that means nothing", api.Parcel{State: api.State{Clock: api.Clock{9, 9, 9}}, Updates: list(add), Clock: api.Clock{3, 1, 1}}, one},
		{"the sender's clock is less than what was known", api.Parcel{Updates: list(add), Clock: api.Clock{3, 0, 0}}, one},
		{"the sender's clock is nothing", api.Parcel{Updates: list(add), Clock: api.Clock{0, 0, 0}}, with(api.Clock{3, 2, 1}, api.Clock{2, 1, 1}, one.State.Lives, add)},
		{"the sender has seen all", api.Parcel{Updates: list(add), Clock: api.Clock{3, 2, 1}}, with(api.Clock{3, 2, 1}, api.Clock{3, 2, 1}, one.State.Lives, add)},
		{"no update", api.Parcel{Clock: api.Clock{1, 2, 0}}, with(api.Clock{2, 2, 1}, api.Clock{2, 2, 1}, d.State.Lives)},
		{"nothing", api.Parcel{Clock: api.Clock{0, 0, 0}}, d},
	} {
		got, err := Take(d, 0, x.p)
		checkNode(t, x.name, got, err, x.want)
		again, err := Take(got, 0, x.p)
		checkNode(t, x.name+", twice", again, err, x.want)
	}
}

// TestF3TakeFrom has one parcel, from either one: it is the sender who is known to have seen more.
func TestF3TakeFrom(t *testing.T) {
	p := api.Parcel{Clock: api.Clock{1, 2, 0}}
	for _, x := range []struct {
		from  int
		known []api.Clock
	}{
		{0, clocks(api.Clock{2, 2, 1}, api.Clock{2, 2, 1}, api.Clock{1, 0, 0})},
		{2, clocks(api.Clock{2, 1, 1}, api.Clock{2, 2, 1}, api.Clock{1, 2, 0})},
	} {
		want := middle()
		want.Known = x.known
		got, err := Take(middle(), x.from, p)
		checkNode(t, told(x.from), got, err, want)
	}
}

func TestF3TakeWhole(t *testing.T) {
	d := middle()
	x, y, z := register(1, 5, 0, 1), register(1, 7, 1, 1), register(2, 6, 0, 2)
	theirs := register(1, 9, 2, 3)
	more := api.State{Clock: api.Clock{3, 1, 3}, Lives: []api.Live{theirs, z}, Tallies: []api.Tally{{Key: 4, Author: 2, Sum: 5}}}
	for _, w := range []struct {
		name    string
		s       api.State
		updates []api.Update
		c       api.Clock
		state   api.State
		base    api.Clock
		log     []api.Update
		known   api.Clock
	}{
		{
			"more than was there", more, nil, more.Clock,
			api.State{Clock: api.Clock{3, 2, 3}, Lives: []api.Live{theirs, z}, Tallies: []api.Tally{{Key: 4, Author: 1, Sum: 3}, {Key: 4, Author: 2, Sum: 5}}},
			api.Clock{3, 1, 3}, d.Log[2:], api.Clock{3, 1, 3},
		},
		{
			"all of the log", api.State{Clock: api.Clock{2, 2, 1}, Lives: []api.Live{y}}, nil, api.Clock{2, 2, 1},
			api.State{Clock: api.Clock{2, 2, 1}, Lives: []api.Live{y}, Tallies: d.State.Tallies},
			api.Clock{2, 2, 1}, nil, api.Clock{2, 2, 1},
		},
		{
			"less than the base", api.State{Clock: api.Clock{1, 0, 0}, Lives: []api.Live{x}}, nil, api.Clock{1, 0, 0},
			d.State, d.Base, d.Log, api.Clock{1, 0, 0},
		},
		{
			"nothing", api.State{Clock: api.Clock{0, 0, 0}}, nil, api.Clock{0, 0, 0},
			d.State, d.Base, d.Log, api.Clock{1, 0, 0},
		},
		{
			"one of the log is pruned", api.State{Clock: api.Clock{2, 0, 0}, Lives: []api.Live{x, z}}, nil, api.Clock{2, 0, 0},
			d.State, api.Clock{2, 0, 1}, list(d.Log[0], d.Log[2]), api.Clock{2, 0, 0},
		},
		{
			"a clock less than the state's", more, nil, api.Clock{2, 0, 1},
			api.State{Clock: api.Clock{3, 2, 3}, Lives: []api.Live{theirs, z}, Tallies: []api.Tally{{Key: 4, Author: 1, Sum: 3}, {Key: 4, Author: 2, Sum: 5}}},
			api.Clock{3, 1, 3}, d.Log[2:], api.Clock{2, 0, 1},
		},
		{
			"updates behind the state", more, list(by(0, api.Clear, 1, 0, 2, 1, 3), by(0, api.Clear, 1, 0, 3, 1, 3), by(2, api.Clear, 2, 0, 4, 1, 3)), api.Clock{4, 1, 4},
			api.State{Clock: api.Clock{4, 2, 4}, Lives: nil, Tallies: []api.Tally{{Key: 4, Author: 1, Sum: 3}, {Key: 4, Author: 2, Sum: 5}}},
			api.Clock{3, 1, 3}, list(d.Log[2], by(0, api.Clear, 1, 0, 3, 1, 3), by(2, api.Clear, 2, 0, 4, 1, 3)), api.Clock{4, 1, 4},
		},
	} {
		p := api.Parcel{Whole: true, State: w.s, Updates: w.updates, Clock: w.c}
		want := api.Node{Self: 1, State: w.state, Base: w.base, Log: w.log, Known: clocks(d.Known[0], w.state.Clock, w.known)}
		got, err := Take(d, 2, p)
		checkNode(t, w.name, got, err, want)
		again, err := Take(got, 2, p)
		checkNode(t, w.name+", twice", again, err, want)
	}
}

func TestF3TakeRefused(t *testing.T) {
	zero, seen := api.Clock{0, 0, 0}, api.Clock{2, 2, 1}
	bad := api.Update{Kind: 9, Seen: zero}
	next := by(0, api.Put, 0, 0, 2, 2, 1)
	right := api.State{Clock: api.Clock{2, 2, 3}}
	early := api.State{Clock: zero, Lives: []api.Live{register(0, 0, 0, 1)}}
	for _, x := range []struct {
		name string
		p    api.Parcel
		want api.Errno
	}{
		{"no clock", api.Parcel{}, api.ErrMany},
		{"a short clock", api.Parcel{Clock: api.Clock{0, 0}}, api.ErrMany},
		{"a long clock", api.Parcel{Clock: api.Clock{0, 0, 0, 0}}, api.ErrMany},
		{"a clock below", api.Parcel{Clock: api.Clock{0, -1, 0}}, api.ErrRange},
		{"a clock above", api.Parcel{Clock: api.Clock{0, 0, last + 1}}, api.ErrRange},
		{"no clock, ahead of the state", api.Parcel{Whole: true, State: early}, api.ErrMany},
		{"a clock below, ahead of updates", api.Parcel{Clock: api.Clock{0, -1, 0}, Updates: list(bad)}, api.ErrRange},
		{"no state", api.Parcel{Whole: true, Clock: zero}, api.ErrMany},
		{"a state of fewer", api.Parcel{Whole: true, Clock: zero, State: api.State{Clock: api.Clock{0, 0}}}, api.ErrMany},
		{"a state's clock below", api.Parcel{Whole: true, Clock: zero, State: api.State{Clock: api.Clock{0, 0, -1}}}, api.ErrRange},
		{"a state's live", api.Parcel{Whole: true, Clock: zero, State: early}, api.ErrEarly},
		{"a state's tally", api.Parcel{Whole: true, Clock: zero, State: api.State{Clock: seen, Tallies: []api.Tally{{Sum: 0}}}}, api.ErrRange},
		{"a state, ahead of updates", api.Parcel{Whole: true, Clock: zero, State: early, Updates: list(bad)}, api.ErrEarly},
		{"a state, ahead of what is not there yet", api.Parcel{Whole: true, Clock: api.Clock{9, 9, 9}}, api.ErrMany},
		{"an update's kind", api.Parcel{Clock: zero, Updates: list(bad)}, api.ErrKind},
		{"an update's kind, behind a state", api.Parcel{Whole: true, State: right, Clock: zero, Updates: list(bad)}, api.ErrKind},
		{"an update's kind, of one that was seen", api.Parcel{Clock: zero, Updates: list(by(0, 9, 0, 0, 0, 0, 0))}, api.ErrKind},
		{"an update's key, of one that was seen", api.Parcel{Clock: zero, Updates: list(by(0, api.Put, 16, 0, 0, 0, 0))}, api.ErrRange},
		{"an update's form, of one that was seen", api.Parcel{Clock: zero, Updates: list(by(0, api.Clear, 0, 1, 0, 0, 0))}, api.ErrForm},
		{"an update's author", api.Parcel{Clock: zero, Updates: list(by(3, api.Put, 0, 0, 0, 0, 0))}, api.ErrRange},
		{"an update's author, below", api.Parcel{Clock: zero, Updates: list(by(-1, api.Put, 0, 0, 0, 0, 0))}, api.ErrRange},
		{"an update that saw nothing", api.Parcel{Clock: zero, Updates: list(put(0, 0))}, api.ErrMany},
		{"an update of fewer", api.Parcel{Clock: zero, Updates: list(by(0, api.Put, 0, 0, 0, 0))}, api.ErrMany},
		{"an update of more", api.Parcel{Clock: zero, Updates: list(by(0, api.Put, 0, 0, 0, 0, 0, 0))}, api.ErrMany},
		{"an update that skips one", api.Parcel{Clock: zero, Updates: list(by(0, api.Put, 0, 0, 3, 2, 1))}, api.ErrEarly},
		{"an update that saw what is not there", api.Parcel{Clock: zero, Updates: list(by(0, api.Put, 0, 0, 2, 2, 2))}, api.ErrEarly},
		{"the second one", api.Parcel{Clock: zero, Updates: list(next, by(2, api.Put, 0, 0, 4, 2, 1))}, api.ErrEarly},
		{"the first of two", api.Parcel{Clock: zero, Updates: list(by(0, api.Put, 0, 0, 3, 2, 1), bad)}, api.ErrEarly},
		{"the second one, of which the third one is worse", api.Parcel{Clock: zero, Updates: list(next, bad, by(0, api.Put, 0, 0, 9, 2, 1))}, api.ErrKind},
		{"updates, ahead of what is not there yet", api.Parcel{Clock: api.Clock{9, 9, 9}, Updates: list(bad)}, api.ErrKind},
		{"a clock that is not there yet", api.Parcel{Clock: api.Clock{2, 2, 2}}, api.ErrEarly},
		{"a clock that is not there yet, with updates", api.Parcel{Clock: api.Clock{4, 2, 1}, Updates: list(next)}, api.ErrEarly},
		{"a clock that is not there yet, with a state", api.Parcel{Whole: true, State: right, Clock: api.Clock{2, 2, 4}}, api.ErrEarly},
		{"a clock that is only in a state that means nothing", api.Parcel{State: right, Clock: api.Clock{2, 2, 3}}, api.ErrEarly},
	} {
		for _, from := range []int{0, 2} {
			got, err := Take(middle(), from, x.p)
			checkNoNode(t, x.name, got, err, x.want)
		}
		for _, y := range others() {
			got, err := Take(middle(), y.who, x.p)
			checkNoNode(t, x.name+", from "+told(y.who), got, err, y.want)
		}
	}
	for _, y := range others() {
		got, err := Take(middle(), y.who, api.Parcel{Clock: zero})
		checkNoNode(t, "from "+told(y.who), got, err, y.want)
	}
}

// crowded is node 0 of two with a log that has no room, and knows nothing of node 1.
func crowded(t *testing.T) api.Node {
	t.Helper()
	return issued(t, start(t, 0, 2), full)
}

func TestF3TakeFull(t *testing.T) {
	d := crowded(t)
	next := by(1, api.Put, 0, 1, full, 0)
	for _, x := range []struct {
		name string
		l    []api.Update
	}{
		{"one more", list(next)},
		{"one more behind one that was seen", list(d.Log[7], next)},
		{"a wrong one", list(api.Update{})},
		{"one that comes too early", list(by(1, api.Put, 0, 1, full, 1))},
		{"a wrong one that was seen", list(by(0, 9, 0, 0, 0, 0))},
	} {
		got, err := Take(d, 1, api.Parcel{Updates: x.l, Clock: api.Clock{0, 0}})
		checkNoNode(t, x.name, got, err, api.ErrMany)
	}
	want := crowded(t)
	want.Known[1] = api.Clock{full, 0}
	got, err := Take(d, 1, api.Parcel{Updates: d.Log, Clock: api.Clock{full, 0}})
	checkNode(t, "nothing more", got, err, want)
}

// TestF3TakeFullWhole has a state that makes room in the log for the updates behind it.
func TestF3TakeFullWhole(t *testing.T) {
	d := crowded(t)
	s, _ := state.Play(state.Start(2), d.Log[:2])
	theirs := list(by(1, api.Put, 0, 1, 2, 0), by(1, api.Put, 0, 2, 2, 1), by(1, api.Put, 0, 3, 2, 2))
	p := api.Parcel{Whole: true, State: s, Updates: theirs[:2], Clock: api.Clock{2, 2}}
	got, err := Take(d, 1, p)
	want := crowded(t)
	want.State.Clock, want.State.Lives = api.Clock{full, 2}, []api.Live{register(0, 2, 1, 2)}
	want.Base, want.Log = api.Clock{2, 0}, append(want.Log[2:], theirs[:2]...)
	want.Known = clocks(api.Clock{full, 2}, api.Clock{2, 2})
	checkNode(t, "just room", got, err, want)
	p.Updates = theirs
	got, err = Take(d, 1, p)
	checkNoNode(t, "no room for the last one", got, err, api.ErrMany)
}

// TestF3TakeRoom fills a log to its end by one parcel.
func TestF3TakeRoom(t *testing.T) {
	d, e := issued(t, start(t, 0, 2), full/2), issued(t, start(t, 1, 2), full-full/2)
	got, err := Take(d, 1, must[api.Parcel](t)(Send(e, 0)))
	if err != api.OK || len(got.Log) != full || Wrong(got) != api.OK {
		t.Errorf("%d updates, %v come", len(got.Log), err)
	}
	got, err = Take(d, 1, must[api.Parcel](t)(Send(issued(t, e, 1), 0)))
	checkNoNode(t, "one too many", got, err, api.ErrMany)
}

func TestF3Prune(t *testing.T) {
	d := middle()
	seen := d.State.Clock
	for _, x := range []struct {
		name     string
		of0, of2 api.Clock
		base     api.Clock
		log      []api.Update
	}{
		{"nothing that is not pruned", d.Known[0], d.Known[2], d.Base, d.Log},
		{"nothing known", api.Clock{0, 0, 0}, api.Clock{0, 0, 0}, d.Base, d.Log},
		{"one alone knows all", seen, api.Clock{0, 0, 0}, d.Base, d.Log},
		{"all know all", seen, seen, seen, nil},
		{"all but one", api.Clock{2, 1, 1}, seen, api.Clock{2, 1, 1}, d.Log[2:]},
		{"one between", api.Clock{2, 0, 1}, api.Clock{2, 2, 1}, api.Clock{2, 0, 1}, list(d.Log[0], d.Log[2])},
		{"of each author the lesser one", api.Clock{0, 1, 0}, api.Clock{2, 2, 0}, api.Clock{1, 1, 1}, d.Log[1:]},
		{"less than the base of one, more of another", api.Clock{0, 2, 0}, api.Clock{0, 2, 1}, api.Clock{1, 2, 1}, d.Log[1:2]},
	} {
		e := middle()
		e.Known[0], e.Known[2] = x.of0, x.of2
		want := e
		want.Base, want.Log = x.base, x.log
		got, err := Prune(e)
		checkNode(t, x.name, got, err, want)
		again, err := Prune(got)
		checkNode(t, x.name+", twice", again, err, want)
	}
}

// TestF3PruneAlone has one node alone: all have what it has.
func TestF3PruneAlone(t *testing.T) {
	d := issued(t, start(t, 0, 1), 7)
	got, err := Prune(d)
	want := api.Node{State: d.State, Base: api.Clock{7}, Known: clocks(api.Clock{7})}
	checkNode(t, "alone", got, err, want)
	got, err = Prune(start(t, 4, 5))
	checkNode(t, "nothing", got, err, start(t, 4, 5))
}
