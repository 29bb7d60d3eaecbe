package state

import (
	"math"
	"reflect"
	"slices"
	"testing"

	"prunewell/api"
	"prunewell/clock"
	"prunewell/log"
)

const (
	last = api.MaxSeq
	most = api.MaxAuthors
	far  = api.MaxItem
)

// by is an update of that author, who saw that.
func by(author int, kind, key, item int, seen ...int) api.Update {
	return api.Update{Author: author, Seen: seen, Kind: kind, Key: key, Item: item}
}

func list(l ...api.Update) []api.Update { return l }

// register is a live of a register, set one of a set.
func register(key, item, author, seq int) api.Live {
	return api.Live{Key: key, Item: item, Author: author, Seq: seq}
}

func set(key, item, author, seq int) api.Live {
	return api.Live{Set: true, Key: key, Item: item, Author: author, Seq: seq}
}

// lives is a state that saw that, with these lives.
func lives(c api.Clock, l ...api.Live) api.State { return api.State{Clock: c, Lives: l} }

// tallies is a state that saw that, with these tallies.
func tallies(c api.Clock, l ...api.Tally) api.State { return api.State{Clock: c, Tallies: l} }

func both(c api.Clock, l []api.Live, t []api.Tally) api.State {
	return api.State{Clock: c, Lives: l, Tallies: t}
}

func sameState(a, b api.State) bool {
	return slices.Equal(a.Clock, b.Clock) && slices.Equal(a.Lives, b.Lives) && slices.Equal(a.Tallies, b.Tallies)
}

func isZero(s api.State) bool { return sameState(s, api.State{}) }

func sameCells(a, b []api.Cell) bool {
	return slices.EqualFunc(a, b, func(x, y api.Cell) bool { return x.Key == y.Key && slices.Equal(x.Items, y.Items) })
}

func sameView(a, b api.View) bool {
	return sameCells(a.Registers, b.Registers) && sameCells(a.Sets, b.Sets) && slices.Equal(a.Counters, b.Counters)
}

func TestD1Start(t *testing.T) {
	for n := range most + 1 {
		if s := Start(n); !sameState(s, lives(make(api.Clock, n))) {
			t.Errorf("Start(%d) = %v", n, s)
		}
	}
	for n := 1; n <= most; n++ {
		if fault := Wrong(Start(n), n); fault != (api.Fault{}) {
			t.Errorf("Start(%d) is wrong: %v", n, fault)
		}
	}
	for _, n := range []int{math.MinInt, -1, most + 1, 1 << 40, math.MaxInt} {
		if s := Start(n); !isZero(s) {
			t.Errorf("Start(%d) = %v", n, s)
		}
	}
}

func TestD1Right(t *testing.T) {
	c := api.Clock{2, 1}
	for _, x := range []struct {
		name string
		s    api.State
	}{
		{"nothing", lives(c)},
		{"empty lists", both(c, []api.Live{}, []api.Tally{})},
		{"one author", lives(api.Clock{0})},
		{"most authors", lives(make(api.Clock, most))},
		{"greatest clock", lives(api.Clock{last, last}, register(0, 0, 1, last))},
		{"least live", lives(c, register(0, -far, 0, 1))},
		{"greatest live", lives(c, set(api.MaxKey, far, 1, 1))},
		{"as many as the clock has", lives(c, register(0, 0, 0, 2), register(0, 0, 1, 1))},
		{"registers ahead of sets", lives(c, register(15, 1000, 1, 1), set(0, -1000, 0, 1))},
		{"by key", lives(c, register(3, 9, 1, 1), register(4, -9, 0, 1))},
		{"by item", lives(c, register(3, 9, 1, 1), register(3, 10, 0, 1))},
		{"items below 0", lives(c, set(3, -10, 1, 1), set(3, -9, 0, 1))},
		{"by author", lives(c, set(3, 9, 0, 2), set(3, 9, 1, 1))},
		{"by number", lives(c, set(3, 9, 0, 1), set(3, 9, 0, 2))},
		{"all of it", lives(c, register(1, 1, 0, 1), register(1, 2, 0, 1), register(2, 0, 1, 1), set(0, 0, 1, 1), set(0, 5, 0, 2))},
		{"greatest sum", tallies(c, api.Tally{Sum: 2 * far})},
		{"least sum", tallies(c, api.Tally{Sum: -2 * far})},
		{"the author's own entry counts", tallies(c, api.Tally{Author: 1, Sum: far})},
		{"greatest key", tallies(c, api.Tally{Key: api.MaxKey, Sum: 1})},
		{"tallies by key", tallies(c, api.Tally{Key: 3, Author: 1, Sum: 9}, api.Tally{Key: 4, Sum: 1})},
		{"tallies by author", tallies(c, api.Tally{Key: 3, Sum: 9}, api.Tally{Key: 3, Author: 1, Sum: -9})},
		{"greatest sum of all", tallies(api.Clock{last}, api.Tally{Sum: far * last})},
	} {
		if fault := Wrong(x.s, len(x.s.Clock)); fault != (api.Fault{}) {
			t.Errorf("%s: Wrong(%v) = %v", x.name, x.s, fault)
		}
	}
}

type refusal struct {
	name string
	s    api.State
	want api.Fault
}

func wrongClocks() []refusal {
	first := register(0, 0, 0, 1)
	bad := []api.Live{register(99, 0, 0, 1)}
	return []refusal{
		{"no clock", api.State{}, api.Fault{Err: api.ErrMany}},
		{"empty clock", lives(api.Clock{}, first), api.Fault{Err: api.ErrMany}},
		{"too many authors", lives(make(api.Clock, most+1)), api.Fault{Err: api.ErrMany}},
		{"clock above MaxSeq", lives(api.Clock{0, last + 1}), api.Fault{Err: api.ErrRange}},
		{"clock below 0", lives(api.Clock{-1, 0}), api.Fault{Err: api.ErrRange}},
		{"clock ahead of lives", both(api.Clock{1, -1}, []api.Live{first, {Seq: 7}}, nil), api.Fault{Err: api.ErrRange}},
		{"clock ahead of all", both(nil, bad, []api.Tally{{}}), api.Fault{Err: api.ErrMany}},
	}
}

func wrongLives() []refusal {
	c := api.Clock{2, 1}
	first := register(0, 0, 0, 1)
	at := func(l api.Live) api.State { return lives(c, first, l) }
	second := func(err api.Errno) api.Fault { return api.Fault{Err: err, At: 1} }
	return []refusal{
		{"author too great", at(set(1, 1, 2, 1)), second(api.ErrRange)},
		{"author below 0", at(set(1, 1, -1, 1)), second(api.ErrRange)},
		{"least author", at(set(1, 1, math.MinInt, 1)), second(api.ErrRange)},
		{"greatest author", at(set(1, 1, math.MaxInt, 1)), second(api.ErrRange)},
		{"author in the clock's spare room", lives(api.Clock{2, 1, 9}[:2], set(1, 1, 2, 1)), api.Fault{Err: api.ErrRange}},
		{"number 0", at(set(1, 1, 0, 0)), second(api.ErrRange)},
		{"number below 0", at(set(1, 1, 0, -1)), second(api.ErrRange)},
		{"least number", at(set(1, 1, 0, math.MinInt)), second(api.ErrRange)},
		{"key below 0", at(set(-1, 1, 0, 1)), second(api.ErrRange)},
		{"key too great", at(set(api.MaxKey+1, 1, 0, 1)), second(api.ErrRange)},
		{"item too small", at(set(1, -far-1, 0, 1)), second(api.ErrRange)},
		{"item too great", at(set(1, far+1, 0, 1)), second(api.ErrRange)},
		{"least item", at(set(1, math.MinInt, 0, 1)), second(api.ErrRange)},
		{"not so many of that author's", at(set(1, 1, 1, 2)), second(api.ErrEarly)},
		{"one more than the clock has", lives(c, register(0, 0, 0, 3)), api.Fault{Err: api.ErrEarly}},
		{"greatest number", at(set(1, 1, 0, math.MaxInt)), second(api.ErrEarly)},
		{"first of an author without any", lives(api.Clock{0}, first), api.Fault{Err: api.ErrEarly}},
		{"the same twice", lives(c, set(3, 9, 0, 1), set(3, 9, 0, 1)), second(api.ErrForm)},
		{"sets ahead of registers", lives(c, set(0, 0, 0, 1), register(1, 1, 1, 1)), second(api.ErrForm)},
		{"key falls", lives(c, set(4, -9, 0, 1), set(3, 9, 1, 1)), second(api.ErrForm)},
		{"item falls", lives(c, set(3, 10, 0, 1), set(3, 9, 1, 1)), second(api.ErrForm)},
		{"item below 0 falls", lives(c, set(3, -9, 0, 1), set(3, -10, 1, 1)), second(api.ErrForm)},
		{"author falls", lives(c, set(3, 9, 1, 1), set(3, 9, 0, 2)), second(api.ErrForm)},
		{"number falls", lives(c, register(3, 9, 0, 2), register(3, 9, 0, 1)), second(api.ErrForm)},
		{"third one", lives(c, set(3, 9, 0, 1), set(3, 9, 0, 2), set(2, 9, 0, 2)), api.Fault{Err: api.ErrForm, At: 2}},

		{"range ahead of early", at(set(99, 1, 0, 9)), second(api.ErrRange)},
		{"range ahead of form", lives(c, set(3, 9, 0, 1), register(3, 9, 0, 0)), second(api.ErrRange)},
		{"early ahead of form", lives(c, set(3, 9, 0, 1), register(3, 9, 0, 3)), second(api.ErrEarly)},
		{"the first one's is told", lives(c, set(3, 9, 0, 3), register(3, 9, 0, 0)), api.Fault{Err: api.ErrEarly}},
		{"form ahead of the next one's", lives(c, set(3, 9, 0, 1), register(3, 9, 0, 1), set(99, 0, 0, 1)), second(api.ErrForm)},
		{"lives ahead of tallies", both(c, []api.Live{first, first}, []api.Tally{{}}), second(api.ErrForm)},
	}
}

func wrongTallies() []refusal {
	c := api.Clock{2, 1, 0}
	first := api.Tally{Sum: 1}
	at := func(x api.Tally) api.State { return tallies(c, first, x) }
	second := func(err api.Errno) api.Fault { return api.Fault{Err: err, At: 1} }
	return []refusal{
		{"author too great", at(api.Tally{Key: 1, Author: 3, Sum: 1}), second(api.ErrRange)},
		{"author below 0", at(api.Tally{Key: 1, Author: -1, Sum: 1}), second(api.ErrRange)},
		{"least author", at(api.Tally{Key: 1, Author: math.MinInt, Sum: 1}), second(api.ErrRange)},
		{"greatest author", at(api.Tally{Key: 1, Author: math.MaxInt, Sum: 1}), second(api.ErrRange)},
		{"key below 0", at(api.Tally{Key: -1, Sum: 1}), second(api.ErrRange)},
		{"key too great", at(api.Tally{Key: api.MaxKey + 1, Sum: 1}), second(api.ErrRange)},
		{"sum is 0", at(api.Tally{Key: 1}), second(api.ErrRange)},
		{"sum too great", at(api.Tally{Key: 1, Sum: 2*far + 1}), second(api.ErrRange)},
		{"sum too small", at(api.Tally{Key: 1, Sum: -2*far - 1}), second(api.ErrRange)},
		{"sum too great for its author", at(api.Tally{Key: 1, Author: 1, Sum: far + 1}), second(api.ErrRange)},
		{"sum of an author without any", at(api.Tally{Key: 1, Author: 2, Sum: 1}), second(api.ErrRange)},
		{"sum below 0 of an author without any", at(api.Tally{Key: 1, Author: 2, Sum: -1}), second(api.ErrRange)},
		{"least sum", at(api.Tally{Key: 1, Sum: math.MinInt}), second(api.ErrRange)},
		{"greatest sum", at(api.Tally{Key: 1, Sum: math.MaxInt}), second(api.ErrRange)},
		{"first one", tallies(c, api.Tally{}), api.Fault{Err: api.ErrRange}},
		{"the same twice", at(first), second(api.ErrForm)},
		{"the same, with a greater sum", at(api.Tally{Sum: 2}), second(api.ErrForm)},
		{"key falls", tallies(c, api.Tally{Key: 4, Sum: 1}, api.Tally{Key: 3, Author: 1, Sum: 1}), second(api.ErrForm)},
		{"author falls", tallies(c, api.Tally{Key: 4, Author: 1, Sum: 1}, api.Tally{Key: 4, Sum: 2}), second(api.ErrForm)},
		{"range ahead of form", at(api.Tally{}), second(api.ErrRange)},
		{"form ahead of the next one's", tallies(c, first, first, api.Tally{}), second(api.ErrForm)},
		{"lives are right, at the tally's own number", both(c, []api.Live{set(0, 0, 0, 1), set(0, 0, 1, 1)}, []api.Tally{{}}), api.Fault{Err: api.ErrRange}},
	}
}

// refusals are what Wrong, Read and Play refuse, of as many authors as the clock has.
func refusals() []refusal {
	return slices.Concat(wrongClocks(), wrongLives(), wrongTallies())
}

func TestD1Wrong(t *testing.T) {
	for _, x := range refusals() {
		if fault := Wrong(x.s, len(x.s.Clock)); fault != x.want {
			t.Errorf("%s: Wrong(%v) = %v, not %v", x.name, x.s, fault, x.want)
		}
	}
}

func TestD1WrongOfOthers(t *testing.T) {
	s := lives(api.Clock{2, 1}, register(0, 0, 0, 1))
	for _, n := range []int{math.MinInt, -1, 0, 1, 3, most, most + 1, math.MaxInt} {
		if fault := Wrong(s, n); fault != (api.Fault{Err: api.ErrMany}) {
			t.Errorf("Wrong(%v, %d) = %v", s, n, fault)
		}
	}
}

func TestD2Play(t *testing.T) {
	c := api.Clock{3, 2}
	has := func(l ...api.Live) api.State { return lives(c, l...) }
	after := func(l ...api.Live) api.State { return lives(api.Clock{4, 2}, l...) }
	full := []api.Live{register(1, 5, 0, 1), register(1, 5, 1, 2), register(2, 5, 0, 1), set(1, 5, 0, 2), set(1, 5, 1, 2), set(1, 6, 0, 3), set(2, 5, 0, 2)}
	without := func(gone ...int) []api.Live {
		var out []api.Live
		for at, live := range full {
			if !slices.Contains(gone, at) {
				out = append(out, live)
			}
		}
		return out
	}
	for _, x := range []struct {
		name string
		s    api.State
		l    []api.Update
		want api.State
	}{
		{"nil", has(full...), nil, has(full...)},
		{"empty", has(full...), list(), has(full...)},
		{"example 4: neither saw the other", Start(2), list(by(0, api.Put, 1, 5, 0, 0), by(1, api.Put, 1, 6, 0, 0)), lives(api.Clock{1, 1}, register(1, 5, 0, 1), register(1, 6, 1, 1))},
		{"Put in an empty one", has(), list(by(0, api.Put, 1, 7, 3, 2)), after(register(1, 7, 0, 4))},
		{"Put takes what it saw", has(full...), list(by(0, api.Put, 3, 0, 3, 2), by(0, api.Put, 1, 7, 4, 2)), lives(api.Clock{5, 2}, append([]api.Live{register(1, 7, 0, 5), register(2, 5, 0, 1), register(3, 0, 0, 4)}, full[3:]...)...)},
		{"Put of the same item", has(full...), list(by(0, api.Put, 1, 5, 3, 2)), after(slices.Concat([]api.Live{register(1, 5, 0, 4)}, full[2:])...)},
		{"Put leaves what it did not see", has(full...), list(by(0, api.Put, 1, 7, 3, 1)), after(slices.Concat([]api.Live{full[1], register(1, 7, 0, 4)}, full[2:])...)},
		{"Clear takes what it saw", has(full...), list(by(0, api.Clear, 1, 0, 3, 2)), after(without(0, 1)...)},
		{"Clear leaves what it did not see", has(full...), list(by(0, api.Clear, 1, 0, 3, 1)), after(without(0)...)},
		{"Clear of nothing", has(full...), list(by(0, api.Clear, 9, 0, 3, 2)), after(full...)},
		{"Add takes nothing", has(full...), list(by(0, api.Add, 1, 5, 3, 2)), after(slices.Concat(full[:4], []api.Live{set(1, 5, 0, 4)}, full[4:])...)},
		{"Add of another item", has(full...), list(by(0, api.Add, 1, -5, 3, 2)), after(slices.Concat(full[:3], []api.Live{set(1, -5, 0, 4)}, full[3:])...)},
		{"Add behind all", has(full...), list(by(0, api.Add, 15, 1000, 3, 2)), after(append(slices.Clip(full), set(15, 1000, 0, 4))...)},
		{"Remove takes what it saw", has(full...), list(by(0, api.Remove, 1, 5, 3, 2)), after(without(3, 4)...)},
		{"Remove leaves what it did not see", has(full...), list(by(0, api.Remove, 1, 5, 3, 1)), after(without(3)...)},
		{"Remove of another item", has(full...), list(by(0, api.Remove, 1, 6, 3, 2)), after(without(5)...)},
		{"Remove of nothing", has(full...), list(by(0, api.Remove, 9, 5, 3, 2)), after(full...)},
		{"Remove, and Add again", has(full...), list(by(0, api.Remove, 2, 5, 3, 2), by(0, api.Add, 2, 5, 4, 2)), lives(api.Clock{5, 2}, append(without(6), set(2, 5, 0, 5))...)},
		{"Remove did not see an Add ahead of it", has(), list(by(0, api.Add, 2, 5, 3, 2), by(1, api.Remove, 2, 5, 3, 2)), lives(api.Clock{4, 3}, set(2, 5, 0, 4))},
		{"just so many were seen", has(register(1, 5, 0, 2), register(1, 5, 0, 3)), list(by(1, api.Clear, 1, 0, 2, 2)), lives(api.Clock{3, 3}, register(1, 5, 0, 3))},
		{"an author's first", lives(api.Clock{3, 0}), list(by(1, api.Put, 0, 0, 0, 0)), lives(api.Clock{3, 1}, register(0, 0, 1, 1))},
		{"an author's last", lives(api.Clock{last - 1}), list(by(0, api.Put, 0, 0, last-1)), lives(api.Clock{last}, register(0, 0, 0, last))},
		{"edges of what may be put", has(), list(by(0, api.Put, 15, far, 3, 2), by(1, api.Put, 15, -far, 3, 2)), lives(api.Clock{4, 3}, register(15, -far, 1, 3), register(15, far, 0, 4))},
		{"one author's put of what was seen twice", has(register(1, 1, 0, 1), register(1, 2, 0, 1)), list(by(1, api.Put, 1, 3, 1, 2)), lives(api.Clock{3, 3}, register(1, 3, 1, 3))},
		{"tallies stay", both(c, full, []api.Tally{{Key: 1, Sum: 5}}), list(by(0, api.Clear, 1, 0, 3, 2)), both(api.Clock{4, 2}, without(0, 1), []api.Tally{{Key: 1, Sum: 5}})},
	} {
		got, fault := Play(x.s, x.l)
		if fault != (api.Fault{}) || !sameState(got, x.want) {
			t.Errorf("%s: Play(%v, %v) = %v, %v, not %v", x.name, x.s, x.l, got, fault, x.want)
		}
	}
}

func TestD2Count(t *testing.T) {
	c := api.Clock{3, 2}
	some := []api.Tally{{Key: 1, Author: 0, Sum: 5}, {Key: 1, Author: 1, Sum: -3}, {Key: 4, Author: 1, Sum: 7}}
	for _, x := range []struct {
		name      string
		author    int
		key, item int
		at, kept  int // some up to at, and from kept on, stay
		comes     api.Tally
		seen      api.Clock
	}{
		{"more", 0, 1, 6, 0, 1, api.Tally{Key: 1, Sum: 11}, api.Clock{4, 2}},
		{"less", 0, 1, -6, 0, 1, api.Tally{Key: 1, Sum: -1}, api.Clock{4, 2}},
		{"to 0", 0, 1, -5, 0, 1, api.Tally{}, api.Clock{4, 2}},
		{"from below to 0", 1, 1, 3, 1, 2, api.Tally{}, api.Clock{3, 3}},
		{"0 more", 1, 1, 0, 1, 2, api.Tally{Key: 1, Author: 1, Sum: -3}, api.Clock{3, 3}},
		{"begins ahead", 1, 0, 9, 0, 0, api.Tally{Key: 0, Author: 1, Sum: 9}, api.Clock{3, 3}},
		{"begins between", 0, 4, -9, 2, 2, api.Tally{Key: 4, Sum: -9}, api.Clock{4, 2}},
		{"begins behind", 0, 15, far, 3, 3, api.Tally{Key: 15, Sum: far}, api.Clock{4, 2}},
		{"0 does not begin", 0, 2, 0, 2, 2, api.Tally{}, api.Clock{4, 2}},
	} {
		want := slices.Clone(some[:x.at])
		if x.comes != (api.Tally{}) {
			want = append(want, x.comes)
		}
		want = append(want, some[x.kept:]...)
		live := []api.Live{register(x.key, x.item, 0, 1), set(x.key, x.item, 0, 1)}
		got, fault := Play(both(c, live, some), list(by(x.author, api.Count, x.key, x.item, 3, 2)))
		if fault != (api.Fault{}) || !sameState(got, both(x.seen, live, want)) {
			t.Errorf("%s: %v, %v, not %v", x.name, got, fault, want)
		}
	}
}

// TestD2CountMost counts as much as may be, up and down.
func TestD2CountMost(t *testing.T) {
	for _, item := range []int{far, -far} {
		s := tallies(api.Clock{last - api.MaxLog}, api.Tally{Sum: (last - api.MaxLog) * item})
		var l []api.Update
		for seen := range api.MaxLog {
			l = append(l, by(0, api.Count, 0, item, last-api.MaxLog+seen))
		}
		got, fault := Play(s, l)
		if fault != (api.Fault{}) || !sameState(got, tallies(api.Clock{last}, api.Tally{Sum: last * item})) {
			t.Errorf("%d by %d: %v, %v", api.MaxLog, item, got, fault)
		}
		if fault := Wrong(got, 1); fault != (api.Fault{}) {
			t.Errorf("%v is wrong: %v", got, fault)
		}
	}
}

func TestD2PlayRefusesState(t *testing.T) {
	for _, x := range refusals() {
		for _, l := range [][]api.Update{nil, list(by(0, api.Put, 0, 0, 0)), make([]api.Update, api.MaxLog+1)} {
			got, fault := Play(x.s, l)
			if fault != (api.Fault{Err: x.want.Err}) || !isZero(got) {
				t.Errorf("%s: Play(%v, ..) = %v, %v, not %v alone", x.name, x.s, got, fault, x.want.Err)
			}
		}
		if got, err := Apply(x.s, by(0, 9, 0, 0)); err != x.want.Err || !isZero(got) {
			t.Errorf("%s: Apply(%v, ..) = %v, %v, not %v alone", x.name, x.s, got, err, x.want.Err)
		}
	}
}

func TestD2PlayRefusesLog(t *testing.T) {
	s := both(api.Clock{3, 2}, []api.Live{register(1, 5, 0, 1)}, []api.Tally{{Key: 1, Sum: 5}})
	first := by(0, api.Put, 1, 5, 3, 2)
	for _, x := range []struct {
		name string
		l    []api.Update
		want api.Fault
	}{
		{"too many", make([]api.Update, api.MaxLog+1), api.Fault{Err: api.ErrMany}},
		{"seen is nil", list(by(0, api.Put, 1, 5)), api.Fault{Err: api.ErrMany}},
		{"seen too short", list(first, by(1, api.Put, 1, 5, 3)), api.Fault{Err: api.ErrMany, At: 1}},
		{"seen too long", list(first, by(1, api.Put, 1, 5, 3, 2, 0)), api.Fault{Err: api.ErrMany, At: 1}},
		{"no such author", list(first, by(2, api.Put, 1, 5, 3, 2)), api.Fault{Err: api.ErrRange, At: 1}},
		{"no such kind", list(first, by(1, 6, 1, 5, 3, 2)), api.Fault{Err: api.ErrKind, At: 1}},
		{"kind 0", list(by(1, 0, 1, 5, 3, 2)), api.Fault{Err: api.ErrKind}},
		{"no such key", list(first, by(1, api.Put, 16, 5, 3, 2)), api.Fault{Err: api.ErrRange, At: 1}},
		{"no such item", list(first, by(1, api.Count, 1, far+1, 3, 2)), api.Fault{Err: api.ErrRange, At: 1}},
		{"Clear of an item", list(first, by(1, api.Clear, 1, 5, 3, 2)), api.Fault{Err: api.ErrForm, At: 1}},
		{"the state saw it", list(by(0, api.Put, 1, 5, 2, 2)), api.Fault{Err: api.ErrFit}},
		{"twice", list(first, first), api.Fault{Err: api.ErrFit, At: 1}},
		{"the state did not see so much", list(by(0, api.Put, 1, 5, 3, 3)), api.Fault{Err: api.ErrEarly}},
		{"a gap", list(first, by(0, api.Put, 1, 5, 5, 2)), api.Fault{Err: api.ErrEarly, At: 1}},
	} {
		got, fault := Play(s, x.l)
		if fault != x.want || !isZero(got) {
			t.Errorf("%s: Play(.., %v) = %v, %v, not %v alone", x.name, x.l, got, fault, x.want)
		}
		if len(x.l) == 1 {
			if got, err := Apply(s, x.l[0]); err != x.want.Err || !isZero(got) {
				t.Errorf("%s: Apply(.., %v) = %v, %v, not %v alone", x.name, x.l[0], got, err, x.want.Err)
			}
		}
	}
}

// grow hands out all logs of at most so many updates and two authors: all kinds, in few keys.
func grow(l []api.Update, seen api.Clock, left int, out func(l []api.Update)) {
	out(l)
	if left == 0 {
		return
	}
	for author := range 2 {
		for other := range seen[1-author] + 1 {
			saw := clock.Copy(seen)
			saw[1-author] = other
			for _, u := range []api.Update{
				by(author, api.Put, 1, len(l), saw...), by(author, api.Clear, 1, 0, saw...),
				by(author, api.Add, 1, 7, saw...), by(author, api.Remove, 1, 7, saw...),
				by(author, api.Count, 1, 1-2*(len(l)%2), saw...),
			} {
				grow(append(slices.Clip(l), u), clock.Tick(seen, author), left-1, out)
			}
		}
	}
}

// scatter has a log of so many updates of n authors, that looks like nothing in particular, but is the same each time.
func scatter(n, many, start int) []api.Update {
	x := start
	pick := func(below int) int {
		x = (x*1103515245 + 12345) % (1 << 31)
		return (x >> 8) % below
	}
	var out []api.Update
	saw := make([]api.Clock, n)
	for author := range saw {
		saw[author] = make(api.Clock, n)
	}
	for range many {
		author, other := pick(n), pick(n)
		saw[author] = clock.Join(saw[author], saw[other])
		u := by(author, 1+pick(5), pick(3), pick(5)-2, clock.Copy(saw[author])...)
		if u.Kind == api.Clear {
			u.Item = 0
		}
		saw[author] = clock.Tick(saw[author], author)
		out = append(out, u)
	}
	return out
}

// sum is what l comes to, from the beginning, told without playing: each put or added one stays that no other one took
// that had seen it.
func sum(l []api.Update, n int) api.State {
	out := Start(n)
	counted := map[[2]int]int{}
	for _, u := range l {
		out.Clock[u.Author]++
		if u.Kind == api.Count {
			counted[[2]int{u.Key, u.Author}] += u.Item
		}
		if (u.Kind == api.Put || u.Kind == api.Add) && !slices.ContainsFunc(l, func(v api.Update) bool { return takes(v, u) }) {
			out.Lives = append(out.Lives, api.Live{Set: u.Kind == api.Add, Key: u.Key, Item: u.Item, Author: u.Author, Seq: u.Seen[u.Author] + 1})
		}
	}
	for key := range api.MaxKey + 1 {
		for author := range n {
			if many := counted[[2]int{key, author}]; many != 0 {
				out.Tallies = append(out.Tallies, api.Tally{Key: key, Author: author, Sum: many})
			}
		}
	}
	slices.SortFunc(out.Lives, func(a, b api.Live) int {
		x, y := []int{0, a.Key, a.Item, a.Author, a.Seq}, []int{0, b.Key, b.Item, b.Author, b.Seq}
		if a.Set {
			x[0] = 1
		}
		if b.Set {
			y[0] = 1
		}
		return slices.Compare(x, y)
	})
	return out
}

func takes(v, u api.Update) bool {
	if v.Key != u.Key || v.Seen[u.Author] <= u.Seen[u.Author] {
		return false
	}
	if u.Kind == api.Put {
		return v.Kind == api.Put || v.Kind == api.Clear
	}
	return v.Kind == api.Remove && v.Item == u.Item
}

// checkPlay holds Play against the sum, Wrong, and Play in pieces.
func checkPlay(t *testing.T, l []api.Update, n int) {
	want := sum(l, n)
	got, fault := Play(Start(n), l)
	if fault != (api.Fault{}) || !sameState(got, want) {
		t.Fatalf("Play(%v) = %v, %v, not %v", l, got, fault, want)
	}
	if fault := Wrong(got, n); fault != (api.Fault{}) {
		t.Fatalf("Play(%v) = %v is wrong: %v", l, got, fault)
	}
	one := Start(n)
	for _, u := range l {
		var err api.Errno
		if one, err = Apply(one, u); err != api.OK {
			t.Fatalf("Apply(.., %v) of %v is refused: %v", u, l, err)
		}
	}
	if !sameState(one, want) {
		t.Fatalf("%v one by one comes to %v, not %v", l, one, want)
	}
	checkRead(t, got)
}

// checkRead asks of each key and item whether it is read as often as it should be.
func checkRead(t *testing.T, s api.State) {
	v, fault := Read(s)
	if fault != (api.Fault{}) {
		t.Fatalf("Read(%v): %v", s, fault)
	}
	var want api.View
	for key := range api.MaxKey + 1 {
		cell := func(set bool) api.Cell {
			out := api.Cell{Key: key}
			for item := -far; item <= far; item++ {
				if slices.ContainsFunc(s.Lives, func(l api.Live) bool { return l.Set == set && l.Key == key && l.Item == item }) {
					out.Items = append(out.Items, item)
				}
			}
			return out
		}
		if slices.ContainsFunc(s.Lives, func(l api.Live) bool { return !l.Set && l.Key == key }) {
			want.Registers = append(want.Registers, cell(false))
		}
		if slices.ContainsFunc(s.Lives, func(l api.Live) bool { return l.Set && l.Key == key }) {
			want.Sets = append(want.Sets, cell(true))
		}
		many, counted := 0, false
		for _, x := range s.Tallies {
			if x.Key == key {
				many, counted = many+x.Sum, true
			}
		}
		if counted {
			want.Counters = append(want.Counters, [2]int{key, many})
		}
	}
	if !sameView(v, want) {
		t.Fatalf("Read(%v) = %v, not %v", s, v, want)
	}
}

func TestD2AllSmallLogs(t *testing.T) {
	grow(nil, api.Clock{0, 0}, 3, func(l []api.Update) { checkPlay(t, l, 2) })
}

func TestD2LongLogs(t *testing.T) {
	for n := 1; n <= most; n++ {
		for start := range 4 {
			checkPlay(t, scatter(n, 75*(start+1), 100*n+start), n)
		}
	}
}

// TestD2AnyOrder has logs of the same updates in other orders: they come to the same.
func TestD2AnyOrder(t *testing.T) {
	grow(nil, api.Clock{0, 0}, 4, func(l []api.Update) {
		want, _ := Play(Start(2), l)
		for at := 1; at < len(l); at++ {
			other := slices.Clone(l)
			other[at-1], other[at] = other[at], other[at-1]
			if got, fault := Play(Start(2), other); fault.Err == api.OK && !sameState(got, want) {
				t.Fatalf("%v comes to %v, but %v to %v", l, want, other, got)
			}
		}
	})
	for start := range 20 {
		l := scatter(4, 120, start)
		sorted, fault := log.Sorted(make(api.Clock, 4), l, 4)
		want, _ := Play(Start(4), l)
		got, again := Play(Start(4), sorted)
		if fault != again || !sameState(got, want) {
			t.Fatalf("%v comes to %v, but sorted to %v", l, want, got)
		}
	}
}

// TestD2InPieces plays a log in two pieces, cut at each place.
func TestD2InPieces(t *testing.T) {
	l := scatter(3, 60, 5)
	want, _ := Play(Start(3), l)
	for cut := range len(l) + 1 {
		half, _ := Play(Start(3), l[:cut])
		if got, fault := Play(half, l[cut:]); fault != (api.Fault{}) || !sameState(got, want) {
			t.Errorf("cut at %d: %v, %v, not %v", cut, got, fault, want)
		}
	}
}

func TestD3Read(t *testing.T) {
	c := api.Clock{9, 9}
	cell := func(key int, items ...int) api.Cell { return api.Cell{Key: key, Items: items} }
	for _, x := range []struct {
		name string
		s    api.State
		want api.View
	}{
		{"nothing", Start(2), api.View{}},
		{"empty lists", both(c, []api.Live{}, []api.Tally{}), api.View{}},
		{"a register", lives(c, register(3, 4, 0, 1)), api.View{Registers: []api.Cell{cell(3, 4)}}},
		{"example 4: both are read", lives(c, register(3, 4, 0, 1), register(3, 5, 1, 1)), api.View{Registers: []api.Cell{cell(3, 4, 5)}}},
		{"each once", lives(c, register(3, 4, 0, 1), register(3, 4, 1, 1), register(3, 4, 1, 2), register(3, 5, 0, 1)), api.View{Registers: []api.Cell{cell(3, 4, 5)}}},
		{"a set", lives(c, set(3, 4, 0, 1)), api.View{Sets: []api.Cell{cell(3, 4)}}},
		{"a set's, each once", lives(c, set(0, -4, 0, 1), set(0, -4, 1, 1), set(0, 0, 1, 1), set(0, 0, 1, 2)), api.View{Sets: []api.Cell{cell(0, -4, 0)}}},
		{"the same item in two keys", lives(c, set(0, 4, 0, 1), set(1, 4, 1, 1), set(15, 4, 1, 1)), api.View{Sets: []api.Cell{cell(0, 4), cell(1, 4), cell(15, 4)}}},
		{"the same key of both", lives(c, register(3, 4, 0, 1), set(3, 4, 0, 1)), api.View{Registers: []api.Cell{cell(3, 4)}, Sets: []api.Cell{cell(3, 4)}}},
		{"keys rising", lives(c, register(1, 9, 0, 1), register(2, -9, 0, 1), set(0, 5, 0, 1), set(4, 1, 0, 1)), api.View{Registers: []api.Cell{cell(1, 9), cell(2, -9)}, Sets: []api.Cell{cell(0, 5), cell(4, 1)}}},
		{"a counter", tallies(c, api.Tally{Key: 2, Sum: -7}), api.View{Counters: [][2]int{{2, -7}}}},
		{"a counter of two", tallies(c, api.Tally{Key: 2, Sum: -7}, api.Tally{Key: 2, Author: 1, Sum: 9}), api.View{Counters: [][2]int{{2, 2}}}},
		{"a counter of 0", tallies(c, api.Tally{Key: 2, Sum: -7}, api.Tally{Key: 2, Author: 1, Sum: 7}), api.View{Counters: [][2]int{{2, 0}}}},
		{"counters rising", tallies(c, api.Tally{Key: 0, Author: 1, Sum: 1}, api.Tally{Key: 2, Sum: 4}, api.Tally{Key: 2, Author: 1, Sum: 5}, api.Tally{Key: 15, Sum: 6}), api.View{Counters: [][2]int{{0, 1}, {2, 9}, {15, 6}}}},
		{"all", both(c, []api.Live{register(1, 1, 0, 1), set(1, 2, 0, 1)}, []api.Tally{{Key: 1, Sum: 3}}), api.View{Registers: []api.Cell{cell(1, 1)}, Sets: []api.Cell{cell(1, 2)}, Counters: [][2]int{{1, 3}}}},
	} {
		v, fault := Read(x.s)
		if fault != (api.Fault{}) || !sameView(v, x.want) {
			t.Errorf("%s: Read(%v) = %v, %v, not %v", x.name, x.s, v, fault, x.want)
		}
	}
}

func TestD3ReadRefused(t *testing.T) {
	for _, x := range refusals() {
		if v, fault := Read(x.s); fault != x.want || !sameView(v, api.View{}) {
			t.Errorf("%s: Read(%v) = %v, %v, not %v alone", x.name, x.s, v, fault, x.want)
		}
	}
}

// TestZ1 has what is no state, no update and no number of authors: each call answers, and the same each time.
func TestZ1(t *testing.T) {
	ints := []int{math.MinInt, -1, 0, 1, 2, 7, math.MaxInt}
	clocks := []api.Clock{nil, {}, {0}, {1, 1}, {math.MaxInt, math.MinInt}, {1, 2, 3, 4, 5, 6, 7}}
	for _, c := range clocks {
		for _, x := range ints {
			for _, y := range ints {
				s := both(c, []api.Live{{Set: x > y, Key: x, Item: y, Author: y, Seq: x}, {Key: y, Item: x, Author: x, Seq: y}}, []api.Tally{{Key: y, Author: x, Sum: y}, {Key: x, Author: y, Sum: x}})
				l := list(api.Update{Author: x, Seen: c, Kind: y, Key: x, Item: y}, api.Update{Author: y, Seen: c, Kind: x})
				checkTwice(t, s, l, x)
				checkTwice(t, tallies(c, s.Tallies...), l, len(c))
				checkTwice(t, lives(c), l, len(c))
			}
		}
	}
}

func checkTwice(t *testing.T, s api.State, l []api.Update, n int) {
	if Wrong(s, n) != Wrong(s, n) {
		t.Errorf("Wrong(%v, %d) is not one thing", s, n)
	}
	a, fault := Play(s, l)
	b, again := Play(s, l)
	if fault != again || !sameState(a, b) || fault.Err != api.OK && !isZero(a) {
		t.Errorf("Play(%v, %v) = %v, %v and %v, %v", s, l, a, fault, b, again)
	}
	c, err := Apply(s, l[0])
	if err != api.OK && !isZero(c) {
		t.Errorf("Apply(%v, %v) = %v, %v", s, l[0], c, err)
	}
	v, fault := Read(s)
	w, again := Read(s)
	if fault != again || !sameView(v, w) {
		t.Errorf("Read(%v) = %v, %v and %v, %v", s, v, fault, w, again)
	}
}

// roomy is a right state, and a log behind it, with spare room behind each list.
func roomy() (api.State, []api.Update) {
	s := api.State{
		Clock:   api.Clock{2, 1, 77}[:2],
		Lives:   []api.Live{register(1, 5, 0, 1), register(1, 6, 1, 1), set(1, 5, 0, 2), {Key: 77}, {Key: 78}}[:3],
		Tallies: []api.Tally{{Key: 1, Sum: 3}, {Key: 2, Author: 1, Sum: 4}, {Key: 77}, {Key: 78}}[:2],
	}
	l := []api.Update{
		by(0, api.Put, 1, 2, []int{2, 1, 77}[:2]...), by(1, api.Count, 0, 2, []int{3, 1, 77}[:2]...),
		by(1, api.Add, 0, 2, []int{3, 2, 77}[:2]...), by(0, api.Count, 1, -3, []int{3, 1, 77}[:2]...),
		by(77, 77, 77, 77, 77),
	}
	return s, l[:4]
}

func fill[T any](l []T, x T) {
	l = l[:cap(l)]
	for i := range l {
		l[i] = x
	}
}

// spoil writes over all of s, the spare room too.
func spoil(s api.State) {
	fill(s.Clock, 88)
	fill(s.Lives, set(88, 88, 88, 88))
	fill(s.Tallies, api.Tally{Key: 88, Author: 88, Sum: 88})
}

func spoilLog(l []api.Update) {
	for _, u := range l {
		fill(u.Seen, 88)
	}
	fill(l, api.Update{Author: 88, Kind: 88})
}

// whole tells s and all its spare room, and l's.
func whole(s api.State, l []api.Update) (api.State, []api.Update) {
	s.Clock, s.Lives, s.Tallies = s.Clock[:cap(s.Clock)], s.Lives[:cap(s.Lives)], s.Tallies[:cap(s.Tallies)]
	l = slices.Clone(l[:cap(l)])
	for i, u := range l {
		l[i].Seen = u.Seen[:cap(u.Seen)]
	}
	return s, l
}

func checkUntouched(t *testing.T, s api.State, l []api.Update) {
	t.Helper()
	gotState, gotLog := whole(s, l)
	wantState, wantLog := whole(roomy())
	if !reflect.DeepEqual(gotState, wantState) || !reflect.DeepEqual(gotLog, wantLog) {
		t.Errorf("what is handed in is changed: %v, %v", gotState, gotLog)
	}
}

func TestZ2OnlyRead(t *testing.T) {
	s, l := roomy()
	Wrong(s, 2)
	checkUntouched(t, s, l)
	if _, fault := Play(s, l); fault != (api.Fault{}) {
		t.Errorf("Play is refused: %v", fault)
	}
	checkUntouched(t, s, l)
	if _, err := Apply(s, l[0]); err != api.OK {
		t.Errorf("Apply is refused: %v", err)
	}
	checkUntouched(t, s, l)
	Read(s)
	checkUntouched(t, s, l)
}

func TestZ2NewMemory(t *testing.T) {
	s, l := roomy()
	played, _ := Play(s, l)
	same, _ := Play(s, nil)
	applied, _ := Apply(s, l[0])
	view, _ := Read(s)
	spoil(s)
	spoilLog(l)
	if want := both(api.Clock{4, 3}, []api.Live{register(1, 2, 0, 3), set(0, 2, 1, 3), set(1, 5, 0, 2)}, []api.Tally{{Key: 0, Author: 1, Sum: 2}, {Key: 2, Author: 1, Sum: 4}}); !sameState(played, want) {
		t.Errorf("what was played changes with what was handed in: %v", played)
	}
	if want, _ := roomy(); !sameState(same, want) {
		t.Errorf("what was not played changes with what was handed in: %v", same)
	}
	if want := both(api.Clock{3, 1}, []api.Live{register(1, 2, 0, 3), set(1, 5, 0, 2)}, []api.Tally{{Key: 1, Sum: 3}, {Key: 2, Author: 1, Sum: 4}}); !sameState(applied, want) {
		t.Errorf("what was applied changes with what was handed in: %v", applied)
	}
	if want := (api.View{Registers: []api.Cell{{Key: 1, Items: []int{5, 6}}}, Sets: []api.Cell{{Key: 1, Items: []int{5}}}, Counters: [][2]int{{1, 3}, {2, 4}}}); !sameView(view, want) {
		t.Errorf("what was read changes with what was handed in: %v", view)
	}
}

// TestZ2OwnMemory spoils answers, the spare room too: what was handed in does not change, nor another answer.
func TestZ2OwnMemory(t *testing.T) {
	s, l := roomy()
	played, _ := Play(s, l)
	same, _ := Play(s, nil)
	applied, _ := Apply(s, l[0])
	for _, answer := range []api.State{played, same, applied} {
		spoil(answer)
		checkUntouched(t, s, l)
	}
	none := s
	none.Lives, none.Tallies = s.Lives[:0], s.Tallies[:0]
	bare, _ := Play(none, nil)
	spoil(bare)
	spoil(Start(2))
	checkUntouched(t, s, l)
	if !sameState(Start(2), lives(api.Clock{0, 0})) {
		t.Errorf("Start answers the same memory twice")
	}
}

// TestZ2CellsApart spoils what is read, one list after the other: the lists behind stay.
func TestZ2CellsApart(t *testing.T) {
	s := lives(api.Clock{9, 9}, register(1, 1, 0, 1), register(1, 2, 0, 1), register(1, 3, 0, 1), register(2, 1, 0, 1), set(0, 5, 0, 1), set(0, 6, 0, 1), set(7, 5, 0, 1))
	v, _ := Read(s)
	want, _ := Read(s)
	got, kept := slices.Concat(v.Registers, v.Sets), slices.Concat(want.Registers, want.Sets)
	for i := range got {
		if !slices.Equal(got[i].Items, kept[i].Items) {
			t.Errorf("lists of one answer share memory: %v, not %v", got[i].Items, kept[i].Items)
		}
		fill(got[i].Items, 88)
	}
	fill(v.Registers, api.Cell{Key: 88})
	if v.Sets[0].Key != 0 || v.Sets[1].Key != 7 {
		t.Errorf("registers and sets share memory: %v", v)
	}
}

func TestCopy(t *testing.T) {
	s, l := roomy()
	got := Copy(s)
	if !sameState(got, s) || !isZero(Copy(api.State{})) {
		t.Errorf("Copy(%v) = %v", s, got)
	}
	spoil(got)
	checkUntouched(t, s, l)
	got = Copy(s)
	want, _ := roomy()
	spoil(s)
	if !sameState(got, want) {
		t.Errorf("the copy changes with what was handed in: %v", got)
	}
}

// TestZ3 has nil, and lists without entries.
func TestZ3(t *testing.T) {
	for _, s := range []api.State{both(api.Clock{0}, nil, nil), both(api.Clock{0}, []api.Live{}, []api.Tally{}), both(api.Clock{0}, nil, []api.Tally{})} {
		if fault := Wrong(s, 1); fault != (api.Fault{}) {
			t.Errorf("Wrong(%v) = %v", s, fault)
		}
		for _, l := range [][]api.Update{nil, {}} {
			if got, fault := Play(s, l); fault != (api.Fault{}) || !sameState(got, Start(1)) {
				t.Errorf("Play(%v, %v) = %v, %v", s, l, got, fault)
			}
		}
		if got, err := Apply(s, by(0, api.Add, 0, 0, 0)); err != api.OK || len(got.Lives) != 1 {
			t.Errorf("Apply(%v, ..) = %v, %v", s, got, err)
		}
		if v, fault := Read(s); fault != (api.Fault{}) || !sameView(v, api.View{}) {
			t.Errorf("Read(%v) = %v, %v", s, v, fault)
		}
	}
	for _, none := range []api.Clock{nil, {}} {
		if fault := Wrong(lives(none), 0); fault != (api.Fault{Err: api.ErrMany}) {
			t.Errorf("Wrong without authors is %v", fault)
		}
	}
}
