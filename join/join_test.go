package join

import (
	"math"
	"reflect"
	"slices"
	"testing"

	"prunewell/api"
	"prunewell/clock"
	"prunewell/state"
	"prunewell/update"
)

const (
	last = api.MaxSeq
	most = api.MaxAuthors
	far  = api.MaxItem
)

// register is a live of a register, set one of a set.
func register(key, item, author, seq int) api.Live {
	return api.Live{Key: key, Item: item, Author: author, Seq: seq}
}

func set(key, item, author, seq int) api.Live {
	return api.Live{Set: true, Key: key, Item: item, Author: author, Seq: seq}
}

func tally(key, author, sum int) api.Tally {
	return api.Tally{Key: key, Author: author, Sum: sum}
}

// lives is a state that saw that, with these lives.
func lives(c api.Clock, l ...api.Live) api.State { return api.State{Clock: c, Lives: l} }

// tallies is a state that saw that, with these tallies.
func tallies(c api.Clock, l ...api.Tally) api.State { return api.State{Clock: c, Tallies: l} }

func all(c api.Clock, l []api.Live, t []api.Tally) api.State {
	return api.State{Clock: c, Lives: l, Tallies: t}
}

func sameState(a, b api.State) bool {
	return slices.Equal(a.Clock, b.Clock) && slices.Equal(a.Lives, b.Lives) && slices.Equal(a.Tallies, b.Tallies)
}

type pair struct {
	name       string
	a, b, want api.State
}

func checkPairs(t *testing.T, pairs []pair) {
	t.Helper()
	for _, x := range pairs {
		got, err := Join(x.a, x.b)
		if err != api.OK || !sameState(got, x.want) {
			t.Errorf("%s: Join(%v, %v) = %v, %v, not %v", x.name, x.a, x.b, got, err, x.want)
		}
	}
}

func TestE1Clock(t *testing.T) {
	checkPairs(t, []pair{
		{"nothing", state.Start(1), state.Start(1), state.Start(1)},
		{"most authors", state.Start(most), state.Start(most), state.Start(most)},
		{"example 5: one update each", lives(api.Clock{1, 0}), lives(api.Clock{0, 1}), lives(api.Clock{1, 1})},
		{"the greater ones", lives(api.Clock{1, 5, 3}), lives(api.Clock{2, 4, 3}), lives(api.Clock{2, 5, 3})},
		{"greatest clocks", lives(api.Clock{last, 0}), lives(api.Clock{0, last}), lives(api.Clock{last, last})},
	})
}

func TestE1Lives(t *testing.T) {
	x, y, z := register(1, 5, 0, 1), register(1, 6, 1, 1), set(1, 5, 0, 2)
	checkPairs(t, []pair{
		{"both have it", lives(api.Clock{1, 0}, x), lives(api.Clock{1, 0}, x), lives(api.Clock{1, 0}, x)},
		{"example 4: neither saw the other's", lives(api.Clock{1, 0}, x), lives(api.Clock{0, 1}, y), lives(api.Clock{1, 1}, x, y)},
		{"neither saw the other's, the other way round", lives(api.Clock{0, 1}, y), lives(api.Clock{1, 0}, x), lives(api.Clock{1, 1}, x, y)},
		{"b saw it, and has it no more", lives(api.Clock{1, 0}, x), lives(api.Clock{1, 1}), lives(api.Clock{1, 1})},
		{"a saw it, and has it no more", lives(api.Clock{1, 1}), lives(api.Clock{1, 0}, x), lives(api.Clock{1, 1})},
		{"each saw the other's", lives(api.Clock{1, 1}, x), lives(api.Clock{1, 1}, y), lives(api.Clock{1, 1})},
		{"a's is new to b", lives(api.Clock{2, 0}, x, z), lives(api.Clock{1, 0}, x), lives(api.Clock{2, 0}, x, z)},
		{"b's is new to a", lives(api.Clock{1, 0}, x), lives(api.Clock{2, 0}, x, z), lives(api.Clock{2, 0}, x, z)},
		{"just so many were seen by b", lives(api.Clock{2, 0}, x, z), lives(api.Clock{2, 0}, x), lives(api.Clock{2, 0}, x)},
		{"just so many were seen by a", lives(api.Clock{2, 0}, x), lives(api.Clock{2, 0}, x, z), lives(api.Clock{2, 0}, x)},
		{"one goes, one comes", lives(api.Clock{1, 0}, x), lives(api.Clock{1, 1}, y), lives(api.Clock{1, 1}, y)},
		{"nothing with something", state.Start(2), lives(api.Clock{2, 1}, x, y, z), lives(api.Clock{2, 1}, x, y, z)},
		{"something with nothing", lives(api.Clock{2, 1}, x, y, z), state.Start(2), lives(api.Clock{2, 1}, x, y, z)},
		{"an author's last", lives(api.Clock{last}, register(0, 0, 0, last)), lives(api.Clock{last - 1}), lives(api.Clock{last}, register(0, 0, 0, last))},
		{"edges of what may be put", lives(api.Clock{1, 0}, set(15, far, 0, 1)), lives(api.Clock{0, 1}, register(0, -far, 1, 1)), lives(api.Clock{1, 1}, register(0, -far, 1, 1), set(15, far, 0, 1))},
	})
}

// TestE1LivesDiffer has lives of one author and number that are not the same one: both states saw both, so both go.
func TestE1LivesDiffer(t *testing.T) {
	c := api.Clock{2, 2}
	one := set(3, 4, 1, 2)
	for _, other := range []api.Live{register(3, 4, 1, 2), set(2, 4, 1, 2), set(3, 5, 1, 2), set(3, 4, 0, 2), set(3, 4, 1, 1)} {
		checkPairs(t, []pair{
			{"differ", lives(c, one), lives(c, other), lives(c)},
			{"differ, the other way round", lives(c, other), lives(c, one), lives(c)},
		})
	}
}

// TestE1LivesInOrder has lives of two states that stand between each other's, by each part of the order.
func TestE1LivesInOrder(t *testing.T) {
	c, d, both := api.Clock{9, 9, 0, 0}, api.Clock{0, 0, 9, 9}, api.Clock{9, 9, 9, 9}
	of := func(author int, l ...api.Live) []api.Live {
		out := slices.Clone(l)
		for i := range out {
			out[i].Author += author
		}
		return out
	}
	for _, x := range []struct {
		name string
		a, b []api.Live
		want []api.Live
	}{
		{"registers ahead of sets", of(0, set(0, 0, 0, 1)), of(2, register(15, far, 0, 1)), []api.Live{register(15, far, 2, 1), set(0, 0, 0, 1)}},
		{"by key", of(0, set(1, 9, 0, 1), set(3, 7, 0, 1)), of(2, set(0, 9, 0, 1), set(2, 8, 0, 1)), []api.Live{set(0, 9, 2, 1), set(1, 9, 0, 1), set(2, 8, 2, 1), set(3, 7, 0, 1)}},
		{"by item", of(0, set(1, -7, 0, 1), set(1, 7, 0, 1)), of(2, set(1, -8, 0, 1), set(1, 0, 0, 1)), []api.Live{set(1, -8, 2, 1), set(1, -7, 0, 1), set(1, 0, 2, 1), set(1, 7, 0, 1)}},
		{"by author", of(0, set(1, 7, 0, 9), set(1, 7, 1, 8)), of(2, set(1, 7, 0, 7), set(1, 7, 1, 6)), []api.Live{set(1, 7, 0, 9), set(1, 7, 1, 8), set(1, 7, 2, 7), set(1, 7, 3, 6)}},
	} {
		checkPairs(t, []pair{
			{x.name, lives(c, x.a...), lives(d, x.b...), lives(both, x.want...)},
			{x.name + ", the other way round", lives(d, x.b...), lives(c, x.a...), lives(both, x.want...)},
		})
	}
	checkPairs(t, []pair{
		{"by number", lives(api.Clock{3}, set(1, 7, 0, 3)), lives(api.Clock{1}), lives(api.Clock{3}, set(1, 7, 0, 3))},
		{"by number, behind what both have", lives(api.Clock{2}, set(1, 7, 0, 2)), lives(api.Clock{9}, set(1, 7, 0, 2), set(1, 7, 0, 9)), lives(api.Clock{9}, set(1, 7, 0, 2), set(1, 7, 0, 9))},
	})
}

func TestE1Tallies(t *testing.T) {
	checkPairs(t, []pair{
		{"both have it", tallies(api.Clock{1}, tally(3, 0, 5)), tallies(api.Clock{1}, tally(3, 0, 5)), tallies(api.Clock{1}, tally(3, 0, 5))},
		{"each author's own", tallies(api.Clock{1, 0}, tally(3, 0, 5)), tallies(api.Clock{0, 1}, tally(3, 1, -4)), tallies(api.Clock{1, 1}, tally(3, 0, 5), tally(3, 1, -4))},
		{"a has more of the author's", tallies(api.Clock{2}, tally(3, 0, 5)), tallies(api.Clock{1}, tally(3, 0, 9)), tallies(api.Clock{2}, tally(3, 0, 5))},
		{"b has more of the author's", tallies(api.Clock{1}, tally(3, 0, 9)), tallies(api.Clock{2}, tally(3, 0, 5)), tallies(api.Clock{2}, tally(3, 0, 5))},
		{"as many: those of a", tallies(api.Clock{2}, tally(3, 0, 5), tally(4, 0, 6)), tallies(api.Clock{2}, tally(3, 0, 9), tally(5, 0, 6)), tallies(api.Clock{2}, tally(3, 0, 5), tally(4, 0, 6))},
		{"as many: none of a", tallies(api.Clock{2}), tallies(api.Clock{2}, tally(3, 0, 9)), tallies(api.Clock{2})},
		{"b's came to 0", tallies(api.Clock{1}, tally(3, 0, 9)), tallies(api.Clock{2}), tallies(api.Clock{2})},
		{"a's came to 0", tallies(api.Clock{2}), tallies(api.Clock{1}, tally(3, 0, 9)), tallies(api.Clock{2})},
		{"one of a's came to 0 with b", tallies(api.Clock{1, 1}, tally(2, 0, 9), tally(2, 1, 9)), tallies(api.Clock{2, 0}, tally(5, 0, 1)), tallies(api.Clock{2, 1}, tally(2, 1, 9), tally(5, 0, 1))},
		{"author by author", tallies(api.Clock{3, 1, 2}, tally(0, 0, 1), tally(0, 1, 2), tally(1, 2, 3)), tallies(api.Clock{2, 2, 2}, tally(0, 0, 4), tally(0, 1, 5), tally(1, 2, 6)), tallies(api.Clock{3, 2, 2}, tally(0, 0, 1), tally(0, 1, 5), tally(1, 2, 3))},
		{"by key", tallies(api.Clock{1, 0}, tally(1, 0, 5), tally(3, 0, 5)), tallies(api.Clock{0, 1}, tally(0, 1, 4), tally(2, 1, 4)), tallies(api.Clock{1, 1}, tally(0, 1, 4), tally(1, 0, 5), tally(2, 1, 4), tally(3, 0, 5))},
		{"by author", tallies(api.Clock{0, 1}, tally(3, 1, 4)), tallies(api.Clock{1, 0}, tally(3, 0, 5)), tallies(api.Clock{1, 1}, tally(3, 0, 5), tally(3, 1, 4))},
		{"greatest sums", tallies(api.Clock{last, 0}, tally(15, 0, last*far)), tallies(api.Clock{0, last}, tally(15, 1, -last*far)), tallies(api.Clock{last, last}, tally(15, 0, last*far), tally(15, 1, -last*far))},
		{"nothing with something", state.Start(1), tallies(api.Clock{2}, tally(3, 0, 5)), tallies(api.Clock{2}, tally(3, 0, 5))},
		{"something with nothing", tallies(api.Clock{2}, tally(3, 0, 5)), state.Start(1), tallies(api.Clock{2}, tally(3, 0, 5))},
	})
}

func TestE1All(t *testing.T) {
	a := all(api.Clock{3, 1}, []api.Live{register(1, 5, 0, 1), set(2, 7, 0, 2), set(2, 7, 1, 1)}, []api.Tally{tally(3, 0, 9)})
	b := all(api.Clock{2, 3}, []api.Live{register(1, 6, 1, 3), set(2, 7, 0, 2)}, []api.Tally{tally(3, 1, -4)})
	want := all(api.Clock{3, 3}, []api.Live{register(1, 6, 1, 3), set(2, 7, 0, 2)}, []api.Tally{tally(3, 0, 9), tally(3, 1, -4)})
	checkPairs(t, []pair{{"all", a, b, want}, {"all, the other way round", b, a, want}})
}

// wrongs are states of two authors that are none, each by another error or another part.
func wrongs() []struct {
	s    api.State
	want api.Errno
} {
	c := api.Clock{2, 1}
	return []struct {
		s    api.State
		want api.Errno
	}{
		{lives(api.Clock{0, -1}), api.ErrRange},
		{lives(api.Clock{last + 1, 0}), api.ErrRange},
		{lives(c, register(0, 0, 2, 1)), api.ErrRange},
		{lives(c, register(-1, 0, 0, 1)), api.ErrRange},
		{lives(c, register(0, 0, 1, 2)), api.ErrEarly},
		{lives(c, set(0, 0, 0, 1), register(0, 0, 0, 1)), api.ErrForm},
		{lives(c, set(0, 0, 0, 1), set(0, 0, 0, 1)), api.ErrForm},
		{tallies(c, tally(0, 0, 0)), api.ErrRange},
		{tallies(c, tally(0, 1, far+1)), api.ErrRange},
		{tallies(c, tally(0, 2, 1)), api.ErrRange},
		{tallies(c, tally(1, 0, 1), tally(0, 0, 1)), api.ErrForm},
	}
}

func checkRefused(t *testing.T, a, b api.State, want api.Errno) {
	t.Helper()
	if got, err := Join(a, b); err != want || !sameState(got, api.State{}) {
		t.Errorf("Join(%v, %v) = %v, %v, not %v alone", a, b, got, err, want)
	}
}

func TestE1Wrong(t *testing.T) {
	right := lives(api.Clock{2, 1}, register(0, 0, 0, 1))
	for _, x := range wrongs() {
		checkRefused(t, x.s, right, x.want)
		checkRefused(t, right, x.s, x.want)
		for _, y := range wrongs() {
			checkRefused(t, x.s, y.s, x.want)
		}
	}
}

// TestE1WrongMany has clocks of other numbers of authors: a's number is asked of both.
func TestE1WrongMany(t *testing.T) {
	for n := range most + 2 {
		for m := range most + 2 {
			a, b := lives(make(api.Clock, n)), lives(make(api.Clock, m))
			if n == m && 1 <= n && n <= most {
				checkPairs(t, []pair{{"as many", a, b, a}})
				continue
			}
			checkRefused(t, a, b, api.ErrMany)
		}
	}
	early := lives(api.Clock{1}, register(0, 0, 0, 2))
	checkRefused(t, early, state.Start(2), api.ErrEarly)
	checkRefused(t, state.Start(2), early, api.ErrMany)
	checkRefused(t, api.State{}, early, api.ErrMany)
	checkRefused(t, state.Start(1), lives(api.Clock{0, -1}), api.ErrMany)
	checkRefused(t, lives(api.Clock{1, 1}[:1]), state.Start(2), api.ErrMany)
}

// picker picks numbers that look like nothing in particular, but are the same each time.
func picker(start int) func(below int) int {
	x := start
	return func(below int) int {
		x = (x*1103515245 + 12345) % (1 << 31)
		return (x >> 8) % below
	}
}

// scatter has a log of so many updates of n authors.
func scatter(n, many, start int) []api.Update {
	pick := picker(start)
	var out []api.Update
	saw := make([]api.Clock, n)
	for author := range saw {
		saw[author] = make(api.Clock, n)
	}
	for range many {
		author, other := pick(n), pick(n)
		saw[author] = clock.Join(saw[author], saw[other])
		u := api.Update{Author: author, Seen: clock.Copy(saw[author]), Kind: 1 + pick(5), Key: pick(3), Item: pick(5) - 2}
		if u.Kind == api.Clear {
			u.Item = 0
		}
		saw[author] = clock.Tick(saw[author], author)
		out = append(out, u)
	}
	return out
}

// played is what those of l come to that c has seen.
func played(t *testing.T, l []api.Update, c api.Clock) api.State {
	t.Helper()
	var seen []api.Update
	for _, u := range l {
		if update.SeenBy(u, c) {
			seen = append(seen, u)
		}
	}
	s, fault := state.Play(state.Start(len(c)), seen)
	if fault != (api.Fault{}) {
		t.Fatalf("%v is refused: %v", seen, fault)
	}
	return s
}

// cuts are clocks that see of l what an author saw, at some times, nothing, and all.
func cuts(l []api.Update, n int) []api.Clock {
	out := []api.Clock{make(api.Clock, n)}
	whole := make(api.Clock, n)
	for at, u := range l {
		c := clock.Tick(u.Seen, u.Author)
		whole = clock.Join(whole, c)
		if at%5 == 0 {
			out = append(out, c)
		}
	}
	return append(out, whole)
}

// TestE1PlayedTogether has two parts of one log: put together they are what both parts come to, played, either way round.
func TestE1PlayedTogether(t *testing.T) {
	for n := 1; n <= most; n++ {
		for start := range 4 {
			l := scatter(n, 25*(start+1), 100*n+start)
			times := cuts(l, n)
			states := map[int]api.State{}
			for i, c := range times {
				states[i] = played(t, l, c)
			}
			for i, c := range times {
				for k, d := range times {
					checkPairs(t, []pair{{"played together", states[i], states[k], played(t, l, clock.Join(c, d))}})
				}
			}
		}
	}
}

// TestE1AnyOrder puts three together in all orders, and twice.
func TestE1AnyOrder(t *testing.T) {
	l := scatter(4, 60, 9)
	times := cuts(l, 4)
	join := func(a, b api.State) api.State {
		out, err := Join(a, b)
		if err != api.OK {
			t.Fatalf("Join(%v, %v) is refused: %v", a, b, err)
		}
		return out
	}
	for i := range times {
		for k := range i {
			for m := range k {
				a, b, c := played(t, l, times[i]), played(t, l, times[k]), played(t, l, times[m])
				want := join(join(a, b), c)
				for _, got := range []api.State{join(a, join(b, c)), join(join(c, a), b), join(c, join(b, a)), join(want, a), join(b, want), join(want, want)} {
					if !sameState(got, want) {
						t.Fatalf("%v, %v and %v come to %v and to %v", a, b, c, got, want)
					}
				}
			}
		}
	}
}

// anyState is a right state of n authors, that need not come from updates.
func anyState(pick func(below int) int, n int) api.State {
	out := api.State{Clock: make(api.Clock, n)}
	for author := range out.Clock {
		out.Clock[author] = pick(4)
	}
	for _, isSet := range []bool{false, true} {
		for key := range 2 {
			for item := -1; item <= 1; item++ {
				for author, many := range out.Clock {
					for seq := 1; seq <= many; seq++ {
						if pick(3) > 0 {
							out.Lives = append(out.Lives, api.Live{Set: isSet, Key: key, Item: item, Author: author, Seq: seq})
						}
					}
				}
			}
		}
	}
	for key := range 4 {
		for author, many := range out.Clock {
			if many > 0 && pick(2) > 0 {
				out.Tallies = append(out.Tallies, tally(key, author, 1+pick(9)))
			}
		}
	}
	return out
}

// told goes through all that may stand in a joined one of such states, in order, and asks the promise's words of each.
func told(a, b api.State) api.State {
	out := api.State{Clock: make(api.Clock, len(a.Clock))}
	for author := range out.Clock {
		out.Clock[author] = max(a.Clock[author], b.Clock[author])
	}
	for _, isSet := range []bool{false, true} {
		for key := range 2 {
			for item := -1; item <= 1; item++ {
				for author := range out.Clock {
					for seq := 1; seq < 4; seq++ {
						live := api.Live{Set: isSet, Key: key, Item: item, Author: author, Seq: seq}
						inA, inB := slices.Contains(a.Lives, live), slices.Contains(b.Lives, live)
						if inA && inB || inA && b.Clock[author] < seq || inB && a.Clock[author] < seq {
							out.Lives = append(out.Lives, live)
						}
					}
				}
			}
		}
	}
	for key := range 4 {
		for author := range out.Clock {
			from := a.Tallies
			if b.Clock[author] > a.Clock[author] {
				from = b.Tallies
			}
			at := slices.IndexFunc(from, func(x api.Tally) bool { return x.Key == key && x.Author == author })
			if at >= 0 {
				out.Tallies = append(out.Tallies, from[at])
			}
		}
	}
	return out
}

func TestE1AnyStates(t *testing.T) {
	pick := picker(77)
	for n := 1; n <= most; n++ {
		for range 200 {
			a, b := anyState(pick, n), anyState(pick, n)
			want := told(a, b)
			checkPairs(t, []pair{{"any states", a, b, want}})
			if fault := state.Wrong(want, n); fault != (api.Fault{}) {
				t.Fatalf("Join(%v, %v) is wrong: %v", a, b, fault)
			}
		}
	}
}

// TestZ1 has what are no states: each call answers, and the same each time.
func TestZ1(t *testing.T) {
	ints := []int{math.MinInt, -1, 0, 1, 2, 7, math.MaxInt}
	clocks := []api.Clock{nil, {}, {0}, {1, 1}, {math.MaxInt, math.MinInt}, {1, 2, 3, 4, 5, 6, 7}}
	for _, c := range clocks {
		for _, d := range clocks {
			for _, x := range ints {
				for _, y := range ints {
					a := all(c, []api.Live{{Set: x > y, Key: x, Item: y, Author: y, Seq: x}, {Key: y, Author: x, Seq: y}}, []api.Tally{tally(y, x, y), tally(x, y, x)})
					b := all(d, []api.Live{{Set: x < y, Key: y, Item: x, Author: x, Seq: y}}, []api.Tally{tally(x, x, y)})
					checkTwice(t, a, b)
					checkTwice(t, lives(c), b)
					checkTwice(t, tallies(c, b.Tallies...), lives(d, a.Lives...))
				}
			}
		}
	}
}

func checkTwice(t *testing.T, a, b api.State) {
	t.Helper()
	got, err := Join(a, b)
	other, again := Join(a, b)
	if err != again || !sameState(got, other) || err != api.OK && !sameState(got, api.State{}) {
		t.Errorf("Join(%v, %v) = %v, %v and %v, %v", a, b, got, err, other, again)
	}
}

// roomy are two right states, with spare room behind each list, and what they come to together.
func roomy() (a, b, both api.State) {
	a = api.State{
		Clock:   api.Clock{2, 1, 77}[:2],
		Lives:   []api.Live{register(1, 5, 0, 1), register(1, 6, 1, 1), set(1, 5, 0, 2), set(2, 1, 1, 1), {Key: 77}}[:3],
		Tallies: []api.Tally{tally(1, 0, 3), tally(2, 1, 4), tally(2, 2, 4), {Key: 78}}[:2],
	}
	b = api.State{
		Clock:   api.Clock{1, 2, 77}[:2],
		Lives:   []api.Live{register(1, 5, 0, 1), register(1, 7, 1, 2), set(1, 5, 0, 2), {Key: 78}}[:2],
		Tallies: []api.Tally{tally(1, 1, 5), tally(2, 1, 6), {Key: 77}, {Key: 78}}[:2],
	}
	both = all(api.Clock{2, 2}, []api.Live{register(1, 5, 0, 1), register(1, 7, 1, 2), set(1, 5, 0, 2)}, []api.Tally{tally(1, 0, 3), tally(1, 1, 5), tally(2, 1, 6)})
	return a, b, both
}

func fill[T any](l []T, x T) {
	l = l[:cap(l)]
	for i := range l {
		l[i] = x
	}
}

// spoil writes over all of s, the spare room too.
func spoil(s api.State) {
	fill(s.Clock, 88)
	fill(s.Lives, set(88, 88, 88, 88))
	fill(s.Tallies, tally(88, 88, 88))
}

// whole tells s and all its spare room.
func whole(s api.State) api.State {
	return all(s.Clock[:cap(s.Clock)], s.Lives[:cap(s.Lives)], s.Tallies[:cap(s.Tallies)])
}

func checkUntouched(t *testing.T, a, b api.State) {
	t.Helper()
	wantA, wantB, _ := roomy()
	if !reflect.DeepEqual(whole(a), whole(wantA)) || !reflect.DeepEqual(whole(b), whole(wantB)) {
		t.Errorf("what is handed in is changed: %v, %v", whole(a), whole(b))
	}
}

func TestZ2OnlyRead(t *testing.T) {
	a, b, both := roomy()
	checkPairs(t, []pair{{"roomy", a, b, both}, {"roomy, the other way round", b, a, both}, {"alone", a, a, a}})
	checkUntouched(t, a, b)
}

func TestZ2NewMemory(t *testing.T) {
	a, b, both := roomy()
	keep, _, _ := roomy()
	joined, _ := Join(a, b)
	alone, _ := Join(a, a)
	with, _ := Join(a, state.Start(2))
	behind, _ := Join(state.Start(2), a)
	spoil(a)
	spoil(b)
	if !sameState(joined, both) {
		t.Errorf("what was joined changes with what was handed in: %v", joined)
	}
	for _, got := range []api.State{alone, with, behind} {
		if !sameState(got, keep) {
			t.Errorf("what was joined changes with what was handed in: %v", got)
		}
	}
}

// TestZ2OwnMemory spoils answers, the spare room too: what was handed in does not change.
func TestZ2OwnMemory(t *testing.T) {
	a, b, _ := roomy()
	bare := all(a.Clock, a.Lives[:0], a.Tallies[:0])
	for _, x := range [][2]api.State{{a, b}, {b, a}, {a, a}, {a, state.Start(2)}, {state.Start(2), b}, {bare, bare}, {bare, b}} {
		got, err := Join(x[0], x[1])
		if err != api.OK {
			t.Errorf("Join(%v, %v) is refused: %v", x[0], x[1], err)
		}
		spoil(got)
		checkUntouched(t, a, b)
	}
}

// TestZ3 has nil, and lists without entries.
func TestZ3(t *testing.T) {
	some := all(api.Clock{1}, []api.Live{register(0, 0, 0, 1)}, []api.Tally{tally(0, 0, 1)})
	for _, none := range []api.State{all(api.Clock{0}, nil, nil), all(api.Clock{0}, []api.Live{}, []api.Tally{}), all(api.Clock{0}, []api.Live{}, nil)} {
		checkPairs(t, []pair{{"none ahead", none, some, some}, {"none behind", some, none, some}, {"none", none, none, none}})
	}
	for _, c := range []api.Clock{nil, {}} {
		checkRefused(t, lives(c), lives(nil), api.ErrMany)
		checkRefused(t, some, lives(c), api.ErrMany)
	}
}
