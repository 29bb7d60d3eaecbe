package log

import (
	"math"
	"reflect"
	"slices"
	"testing"

	"prunewell/api"
	"prunewell/clock"
	"prunewell/update"
)

const last = api.MaxSeq

// by is an update of that author, who saw that; right, as far as these are.
func by(author int, seen ...int) api.Update {
	return api.Update{Author: author, Seen: seen, Kind: api.Put, Key: 3, Item: 4}
}

// with is that update, changed.
func with(u api.Update, change func(u *api.Update)) api.Update {
	change(&u)
	return u
}

func kind(u api.Update, k int) api.Update {
	return with(u, func(u *api.Update) { u.Kind = k })
}

func list(l ...api.Update) []api.Update { return l }

// alone has so many updates of one author, one behind the other.
func alone(many int) []api.Update {
	var out []api.Update
	for seen := range many {
		out = append(out, by(0, seen))
	}
	return out
}

func sameUpdate(a, b api.Update) bool {
	return slices.Equal(a.Seen, b.Seen) && a.Author == b.Author && a.Kind == b.Kind && a.Key == b.Key && a.Item == b.Item
}

func sameList(a, b []api.Update) bool {
	return slices.EqualFunc(a, b, sameUpdate)
}

func TestC1Clock(t *testing.T) {
	for _, x := range []struct {
		name string
		base api.Clock
		l    []api.Update
		want api.Clock
	}{
		{"nil", api.Clock{3, 4}, nil, api.Clock{3, 4}},
		{"empty", api.Clock{3, 4}, list(), api.Clock{3, 4}},
		{"one", api.Clock{0, 0}, list(by(1, 0, 0)), api.Clock{0, 1}},
		{"one behind the base", api.Clock{3, 4}, list(by(0, 3, 4)), api.Clock{4, 4}},
		{"it saw less of another than the base", api.Clock{3, 4}, list(by(0, 3, 0)), api.Clock{4, 4}},
		{"two of one author", api.Clock{0, 0}, list(by(1, 0, 0), by(1, 0, 1)), api.Clock{0, 2}},
		{"two that did not see each other", api.Clock{0, 0}, list(by(1, 0, 0), by(0, 0, 0)), api.Clock{1, 1}},
		{"one saw both", api.Clock{0, 0}, list(by(1, 0, 0), by(0, 0, 0), by(0, 1, 1)), api.Clock{2, 1}},
		{"one author", api.Clock{7}, list(by(0, 7), by(0, 8)), api.Clock{9}},
		{"most authors", api.Clock{0, 0, 0, 0, 0, 0}, list(by(5, 0, 0, 0, 0, 0, 0), by(2, 0, 0, 0, 0, 0, 1)), api.Clock{0, 0, 1, 0, 0, 1}},
		{"the author's last", api.Clock{last - 1, last}, list(by(0, last-1, last)), api.Clock{last, last}},
		{"as many as may be", api.Clock{0}, alone(api.MaxLog), api.Clock{api.MaxLog}},
		{"the same item twice", api.Clock{0, 0}, list(by(0, 0, 0), by(0, 1, 0)), api.Clock{2, 0}},
	} {
		got, fault := Clock(x.base, x.l, len(x.base))
		if fault != (api.Fault{}) || !slices.Equal(got, x.want) {
			t.Errorf("%s: Clock(%v, %v) = %v, %v, not %v", x.name, x.base, x.l, got, fault, x.want)
		}
	}
}

// refusals are what Clock, and Sorted likewise, refuse.
func refusals() []struct {
	name string
	base api.Clock
	l    []api.Update
	n    int
	want api.Fault
} {
	most := api.MaxAuthors
	zero := api.Clock{0, 0}
	first := by(0, 0, 0)
	return []struct {
		name string
		base api.Clock
		l    []api.Update
		n    int
		want api.Fault
	}{
		{"no authors", nil, nil, 0, api.Fault{Err: api.ErrMany}},
		{"fewer than none", nil, nil, -1, api.Fault{Err: api.ErrMany}},
		{"least n", zero, nil, math.MinInt, api.Fault{Err: api.ErrMany}},
		{"greatest n", zero, nil, math.MaxInt, api.Fault{Err: api.ErrMany}},
		{"too many authors", make(api.Clock, most+1), nil, most + 1, api.Fault{Err: api.ErrMany}},
		{"base is nil", nil, list(first), 2, api.Fault{Err: api.ErrMany}},
		{"base too short", zero[:1], list(first), 2, api.Fault{Err: api.ErrMany}},
		{"base too long", api.Clock{0, 0, 0}, list(first), 2, api.Fault{Err: api.ErrMany}},
		{"base below 0", api.Clock{0, -1}, list(first), 2, api.Fault{Err: api.ErrRange}},
		{"base above MaxSeq", api.Clock{0, last + 1}, list(first), 2, api.Fault{Err: api.ErrRange}},
		{"one too many", api.Clock{0}, alone(api.MaxLog + 1), 1, api.Fault{Err: api.ErrMany}},
		{"many ahead of what they are", api.Clock{0}, make([]api.Update, api.MaxLog+1), 1, api.Fault{Err: api.ErrMany}},
		{"base ahead of many", api.Clock{-1}, alone(api.MaxLog + 1), 1, api.Fault{Err: api.ErrRange}},
		{"base ahead of the updates", api.Clock{-1, 0}, list(kind(first, 9)), 2, api.Fault{Err: api.ErrRange}},

		{"seen is nil", zero, list(by(0)), 2, api.Fault{Err: api.ErrMany}},
		{"seen too short, at 1", zero, list(first, by(1, 0)), 2, api.Fault{Err: api.ErrMany, At: 1}},
		{"seen too long, at 1", zero, list(first, by(1, 0, 0, 0)), 2, api.Fault{Err: api.ErrMany, At: 1}},
		{"no such author, at 1", zero, list(first, by(2, 0, 0)), 2, api.Fault{Err: api.ErrRange, At: 1}},
		{"least author", zero, list(by(math.MinInt, 0, 0)), 2, api.Fault{Err: api.ErrRange}},
		{"seen below 0", zero, list(by(0, 0, -1)), 2, api.Fault{Err: api.ErrRange}},
		{"seen the greatest", zero, list(by(0, math.MaxInt, 0)), 2, api.Fault{Err: api.ErrRange}},
		{"no author can have more than MaxSeq", api.Clock{last}, list(by(0, last)), 1, api.Fault{Err: api.ErrRange}},
		{"the author's last, and one more", api.Clock{last - 1}, list(by(0, last-1), by(0, last)), 1, api.Fault{Err: api.ErrRange, At: 1}},
		{"kind, at 1", zero, list(first, kind(by(1, 0, 0), 6)), 2, api.Fault{Err: api.ErrKind, At: 1}},
		{"key, at 2", zero, list(first, by(1, 0, 0), with(by(1, 0, 1), func(u *api.Update) { u.Key = 16 })), 2, api.Fault{Err: api.ErrRange, At: 2}},
		{"Clear of 4, at 1", zero, list(first, kind(by(1, 0, 0), api.Clear)), 2, api.Fault{Err: api.ErrForm, At: 1}},

		{"base saw it", api.Clock{1, 0}, list(first), 2, api.Fault{Err: api.ErrFit}},
		{"base saw it, and more", api.Clock{5, 0}, list(by(0, 3, 0)), 2, api.Fault{Err: api.ErrFit}},
		{"twice", zero, list(first, first), 2, api.Fault{Err: api.ErrFit, At: 1}},
		{"another one as its author's first", zero, list(first, by(1, 1, 0), by(0, 0, 1)), 2, api.Fault{Err: api.ErrFit, At: 2}},
		{"base did not see its author's", zero, list(by(0, 1, 0)), 2, api.Fault{Err: api.ErrEarly}},
		{"base did not see another's", zero, list(by(0, 0, 1)), 2, api.Fault{Err: api.ErrEarly}},
		{"it saw one that is behind it", zero, list(by(0, 0, 1), by(1, 0, 0)), 2, api.Fault{Err: api.ErrEarly}},
		{"a gap, at 1", zero, list(first, by(0, 2, 0)), 2, api.Fault{Err: api.ErrEarly, At: 1}},
		{"it saw too much, at 1", zero, list(first, by(1, 2, 0)), 2, api.Fault{Err: api.ErrEarly, At: 1}},
		{"the last of many, at its number", api.Clock{0}, append(alone(api.MaxLog-1), by(0, 0)), 1, api.Fault{Err: api.ErrFit, At: api.MaxLog - 1}},

		{"wrong ahead of fit", api.Clock{1, 0}, list(kind(first, 9)), 2, api.Fault{Err: api.ErrKind}},
		{"wrong ahead of early", zero, list(kind(by(0, 0, 1), 9)), 2, api.Fault{Err: api.ErrKind}},
		{"fit ahead of early", api.Clock{1, 0}, list(by(0, 0, 5)), 2, api.Fault{Err: api.ErrFit}},
		{"the first one's is told", zero, list(first, by(1, 5, 0), first, kind(first, 9)), 2, api.Fault{Err: api.ErrEarly, At: 1}},
		{"what did not fit is not reached behind what is wrong", zero, list(first, kind(first, 9), first), 2, api.Fault{Err: api.ErrKind, At: 1}},
	}
}

func TestC1ClockRefused(t *testing.T) {
	for _, x := range refusals() {
		got, fault := Clock(x.base, x.l, x.n)
		if fault != x.want || len(got) != 0 {
			t.Errorf("%s: Clock(%v, .., %d) = %v, %v, not %v alone", x.name, x.base, x.n, got, fault, x.want)
		}
	}
}

func TestC2SortedRefused(t *testing.T) {
	for _, x := range refusals() {
		got, fault := Sorted(x.base, x.l, x.n)
		if fault != x.want || len(got) != 0 {
			t.Errorf("%s: Sorted(%v, .., %d) = %v, %v, not %v alone", x.name, x.base, x.n, got, fault, x.want)
		}
	}
}

func TestC2Lacks(t *testing.T) {
	wild := api.Update{Author: 0, Seen: api.Clock{5, -3}, Kind: 77, Key: -8, Item: math.MinInt}
	for _, x := range []struct {
		name string
		l    []api.Update
		c    api.Clock
		want []api.Update
	}{
		{"nil", nil, api.Clock{0, 0}, nil},
		{"empty", list(), api.Clock{0, 0}, nil},
		{"nothing was seen", list(by(1, 0, 0), by(0, 0, 0)), api.Clock{0, 0}, list(by(1, 0, 0), by(0, 0, 0))},
		{"all was seen", list(by(1, 0, 0), by(0, 0, 0)), api.Clock{1, 1}, nil},
		{"one was seen", list(by(1, 0, 0), by(0, 0, 0), by(0, 1, 1)), api.Clock{1, 0}, list(by(1, 0, 0), by(0, 1, 1))},
		{"as many as its number", list(by(0, 6, 0)), api.Clock{7, 0}, nil},
		{"one fewer", list(by(0, 6, 0)), api.Clock{6, 0}, list(by(0, 6, 0))},
		{"more", list(by(0, 6, 0)), api.Clock{8, 0}, nil},
		{"what it saw of others does not count", list(by(0, 0, 900)), api.Clock{1, 0}, nil},
		{"as they stand, twice too", list(by(0, 2, 0), by(1, 0, 0), by(0, 2, 0), by(0, 0, 0)), api.Clock{1, 1}, list(by(0, 2, 0), by(0, 2, 0))},
		{"c has not that author", list(by(1, 0, 0), by(0, 0, 0)), api.Clock{1}, list(by(1, 0, 0))},
		{"c is nil", list(by(0, 0)), nil, list(by(0, 0))},
		{"c is empty, and of less than 0", list(by(0, -5)), api.Clock{}, list(by(0, -5))},
		{"c's spare room does not count", list(by(1, 0, 0)), api.Clock{5, 5}[:1], list(by(1, 0, 0))},
		{"c has more authors", list(by(0, 0)), api.Clock{1, 0, 0, 0, 0, 0, 0, 0}, nil},
		{"seen has not that author", list(by(1, 0), by(0, 0)), api.Clock{9, 9}, list(by(1, 0))},
		{"seen is nil", list(by(0)), api.Clock{9, 9}, list(by(0))},
		{"author below 0", list(by(-1, 0, 0)), api.Clock{9, 9}, list(by(-1, 0, 0))},
		{"least author", list(by(math.MinInt, 0, 0)), api.Clock{9, 9}, list(by(math.MinInt, 0, 0))},
		{"greatest author", list(by(math.MaxInt, 0, 0)), api.Clock{9, 9}, list(by(math.MaxInt, 0, 0))},
		{"wrong ones stay as they are", list(wild), api.Clock{5, 9}, list(wild)},
		{"wrong ones can be seen", list(wild), api.Clock{6, 0}, nil},
		{"less than 0 was seen", list(by(0, -3), by(0, -2)), api.Clock{-2}, list(by(0, -2))},
	} {
		if got := Lacks(x.l, x.c); !sameList(got, x.want) {
			t.Errorf("%s: Lacks(%v, %v) = %v, not %v", x.name, x.l, x.c, got, x.want)
		}
	}
}

func TestC2LacksOfAny(t *testing.T) {
	l := make([]api.Update, 5*api.MaxLog)
	for i := range l {
		l[i] = by(i%2, i, i)
	}
	if got := Lacks(l, api.Clock{0, 0}); !sameList(got, l) {
		t.Errorf("of %d updates %d are lacking", len(l), len(got))
	}
}

func TestC2Heads(t *testing.T) {
	for _, x := range []struct {
		name string
		l    []api.Update
		want []int
	}{
		{"nil", nil, nil},
		{"empty", list(), nil},
		{"one", list(by(0, 0, 0)), []int{0}},
		{"example 3: the last one saw both others", list(by(1, 0, 0), by(0, 0, 0), by(0, 1, 1)), []int{2}},
		{"neither saw the other", list(by(1, 0, 0), by(0, 0, 0)), []int{0, 1}},
		{"one was seen, one not", list(by(1, 0, 0), by(0, 0, 0), by(0, 1, 0)), []int{0, 2}},
		{"the middle one was not seen", list(by(2, 0, 0, 0), by(1, 0, 0, 0), by(0, 0, 0, 1)), []int{1, 2}},
		{"who saw more of an author saw it", list(by(0, 3, 0), by(1, 9, 0)), []int{1}},
		{"who saw one fewer did not", list(by(0, 3, 0), by(1, 3, 0)), []int{0, 1}},
		{"who saw just so many did", list(by(0, 3, 0), by(1, 4, 0)), []int{1}},
		{"whoever is behind, not the next one only", list(by(0, 0, 0), by(1, 0, 0), by(1, 0, 1), by(1, 1, 2)), []int{3}},
		{"the next one, not the last one only", list(by(0, 0, 0), by(1, 1, 0), by(1, 0, 1)), []int{2}},
		{"who is ahead does not count", list(by(1, 1, 0), by(0, 0, 0)), []int{0, 1}},
		{"who is ahead saw it, who is behind not", list(by(1, 5, 0), by(0, 4, 0), by(1, 4, 1)), []int{1, 2}},
		{"it does not see itself", list(by(0, 0)), []int{0}},
		{"the same twice", list(by(0, 0, 0), by(0, 0, 0)), []int{0, 1}},
		{"five", list(by(1, 0, 0), by(1, 0, 1), by(0, 0, 1), by(0, 1, 2), by(1, 1, 2)), []int{3, 4}},
		{"author is none of Seen's", list(by(2, 0, 0), by(0, 0, 0)), []int{1}},
		{"author below 0", list(by(-1, 0, 0)), nil},
		{"least and greatest author", list(by(math.MinInt, 0), by(math.MaxInt, 0)), nil},
		{"seen is nil", list(by(0)), nil},
		{"author in the spare room", list(by(2, []int{0, 0, 0}[:2]...)), nil},
		{"by one whose author is none", list(by(0, 0, 0), by(7, 1, 0)), nil},
		{"by a wrong one", list(by(0, 0, 0), kind(by(1, 1, 0), 9)), []int{1}},
		{"one behind has not that author", list(by(1, 0, 0), by(0, 0)), []int{0, 1}},
		{"one behind has none", list(by(0, -1), by(0)), []int{0}},
		{"0 were seen", list(by(0, -1), by(1, 0, 0)), []int{1}},
		{"one without that author is not one who saw 0", list(by(1, 0, -1), by(0, 5), by(0, 6)), []int{0, 2}},
		{"one with less, one without", list(by(1, 0, -1), by(0, 0), by(0, 0, -7)), []int{0, 1, 2}},
		{"fewer than 0 were seen", list(by(0, -5), by(0, -4), by(0, -3)), []int{2}},
		{"spare room behind does not count", list(by(1, 0, 0), by(0, []int{0, 9}[:1]...)), []int{0, 1}},
		{"of different lengths", list(by(2, 0, 0, 0), by(0, 0), by(1, 0, 0, 1), by(0, 1)), []int{2, 3}},
	} {
		if got := Heads(x.l); !slices.Equal(got, x.want) {
			t.Errorf("%s: Heads(%v) = %v, not %v", x.name, x.l, got, x.want)
		}
	}
}

// TestC2HeadsOfMany has more updates than could each be held against each other.
func TestC2HeadsOfMany(t *testing.T) {
	l := make([]api.Update, 1<<18)
	for i := range l {
		l[i] = by(i%2, i, 0)
	}
	got := Heads(l)
	if len(got) != len(l)/2 {
		t.Fatalf("%d heads of %d updates", len(got), len(l))
	}
	for i, at := range got {
		if at != 2*i+1 {
			t.Fatalf("head %d stands at %d", i, at)
		}
	}
}

func TestC2Sorted(t *testing.T) {
	for _, x := range []struct {
		name string
		base api.Clock
		l    []api.Update
		want []api.Update
	}{
		{"nil", api.Clock{0, 0}, nil, nil},
		{"empty", api.Clock{0, 0}, list(), nil},
		{"one", api.Clock{0, 4}, list(by(1, 0, 4)), list(by(1, 0, 4))},
		{"the least author is first", api.Clock{0, 0}, list(by(1, 0, 0), by(0, 0, 0)), list(by(0, 0, 0), by(1, 0, 0))},
		{"sorted already", api.Clock{0, 0}, list(by(0, 0, 0), by(1, 0, 0)), list(by(0, 0, 0), by(1, 0, 0))},
		{"all of an author's, if they saw no other", api.Clock{0, 0}, list(by(1, 0, 0), by(0, 0, 0), by(1, 0, 1), by(0, 1, 0)), list(by(0, 0, 0), by(0, 1, 0), by(1, 0, 0), by(1, 0, 1))},
		{"what it saw stays ahead", api.Clock{0, 0}, list(by(1, 0, 0), by(0, 0, 1)), list(by(1, 0, 0), by(0, 0, 1))},
		{"as soon as it fits", api.Clock{0, 0}, list(by(1, 0, 0), by(1, 0, 1), by(0, 0, 1)), list(by(1, 0, 0), by(0, 0, 1), by(1, 0, 1))},
		{"the base was seen", api.Clock{3, 7}, list(by(1, 3, 7), by(1, 3, 8), by(0, 3, 7)), list(by(0, 3, 7), by(1, 3, 7), by(1, 3, 8))},
		{"three authors", api.Clock{0, 0, 0}, list(by(2, 0, 0, 0), by(1, 0, 0, 0), by(0, 0, 0, 1), by(2, 1, 0, 1)), list(by(1, 0, 0, 0), by(2, 0, 0, 0), by(0, 0, 0, 1), by(2, 1, 0, 1))},
		{"the least does not fit, the next one does", api.Clock{0, 0, 0}, list(by(2, 0, 0, 0), by(0, 0, 0, 1), by(1, 0, 0, 0), by(1, 1, 1, 1)), list(by(1, 0, 0, 0), by(2, 0, 0, 0), by(0, 0, 0, 1), by(1, 1, 1, 1))},
		{"as many as may be", api.Clock{0}, alone(api.MaxLog), alone(api.MaxLog)},
	} {
		got, fault := Sorted(x.base, x.l, len(x.base))
		if fault != (api.Fault{}) || !sameList(got, x.want) {
			t.Errorf("%s: Sorted(%v, %v) = %v, %v, not %v", x.name, x.base, x.l, got, fault, x.want)
		}
	}
}

// grow hands out all logs of so many updates and two authors that go on from what was seen.
func grow(l []api.Update, seen api.Clock, left int, out func(l []api.Update, seen api.Clock)) {
	out(l, seen)
	if left == 0 {
		return
	}
	for author := range 2 {
		for other := range seen[1-author] + 1 {
			saw := clock.Copy(seen)
			saw[1-author] = other
			u := api.Update{Author: author, Seen: saw, Kind: api.Count, Key: len(l), Item: 1}
			grow(append(slices.Clip(l), u), clock.Tick(seen, author), left-1, out)
		}
	}
}

func TestC1AllSmallLogs(t *testing.T) {
	for _, base := range []api.Clock{{0, 0}, {1, 2}} {
		grow(nil, base, 5, func(l []api.Update, seen api.Clock) {
			if got, fault := Clock(base, l, 2); fault != (api.Fault{}) || !slices.Equal(got, seen) {
				t.Errorf("Clock(%v, %v) = %v, %v, not %v", base, l, got, fault, seen)
			}
		})
	}
}

func TestC2AllSmallLogs(t *testing.T) {
	grow(nil, api.Clock{0, 0}, 5, func(l []api.Update, seen api.Clock) {
		checkHeads(t, l)
		checkLacks(t, l, seen)
		checkSorted(t, l)
	})
}

// checkHeads holds each update against each one behind it.
func checkHeads(t *testing.T, l []api.Update) {
	var want []int
	for at, u := range l {
		if !slices.ContainsFunc(l[at+1:], func(v api.Update) bool { return v.Seen[u.Author] > u.Seen[u.Author] }) {
			want = append(want, at)
		}
	}
	if got := Heads(l); !slices.Equal(got, want) {
		t.Errorf("Heads(%v) = %v, not %v", l, got, want)
	}
}

func checkLacks(t *testing.T, l []api.Update, seen api.Clock) {
	for a := range seen[0] + 1 {
		for b := range seen[1] + 1 {
			got := Lacks(l, api.Clock{a, b})
			if len(got) != seen[0]-a+seen[1]-b {
				t.Errorf("Lacks(%v, %d %d) = %v", l, a, b, got)
			}
			if slices.ContainsFunc(got, func(u api.Update) bool { return u.Seen[u.Author] < []int{a, b}[u.Author] }) {
				t.Errorf("Lacks(%v, %d %d) = %v", l, a, b, got)
			}
		}
	}
}

// checkSorted looks at each place whether one behind it, of a lesser author, would have fitted there.
func checkSorted(t *testing.T, l []api.Update) {
	zero := api.Clock{0, 0}
	got, fault := Sorted(zero, l, 2)
	if fault != (api.Fault{}) || len(got) != len(l) {
		t.Fatalf("Sorted(%v) = %v, %v", l, got, fault)
	}
	if _, fault := Clock(zero, got, 2); fault != (api.Fault{}) {
		t.Errorf("Sorted(%v) = %v, which is no log: %v", l, got, fault)
	}
	for at, u := range got {
		if !slices.ContainsFunc(l, func(v api.Update) bool { return sameUpdate(u, v) }) {
			t.Errorf("Sorted(%v) = %v: where is %v from?", l, got, u)
		}
		for _, v := range got[at+1:] {
			if _, fault := Clock(zero, append(slices.Clip(got[:at]), v), 2); fault.Err == api.OK && v.Author < u.Author {
				t.Errorf("Sorted(%v) = %v: %v goes ahead of %v", l, got, v, u)
			}
		}
	}
	if again, _ := Sorted(zero, got, 2); !sameList(again, got) {
		t.Errorf("%v sorted again is %v", got, again)
	}
}

// TestC2SortedIsOne has logs of the same updates in another order: sorted they are the same.
func TestC2SortedIsOne(t *testing.T) {
	zero := api.Clock{0, 0}
	grow(nil, zero, 5, func(l []api.Update, _ api.Clock) {
		want, _ := Sorted(zero, l, 2)
		for at := 1; at < len(l); at++ {
			other := slices.Clone(l)
			other[at-1], other[at] = other[at], other[at-1]
			if got, fault := Sorted(zero, other, 2); fault.Err == api.OK && !sameList(got, want) {
				t.Errorf("%v sorted is %v, but %v is %v", l, want, other, got)
			}
		}
	})
}

// TestZ1 has what is no update, no clock and no number of authors: each call answers, and the same each time.
func TestZ1(t *testing.T) {
	ints := []int{math.MinInt, -1, 0, 1, 2, math.MaxInt}
	clocks := []api.Clock{nil, {}, {0}, {0, 0}, {math.MaxInt, math.MinInt}, {1, 2, 3, 4, 5, 6, 7}}
	var l []api.Update
	for _, x := range ints {
		for _, c := range clocks {
			l = append(l, api.Update{Author: x, Seen: c, Kind: x, Key: x, Item: x}, by(x, c...))
		}
	}
	Heads(l)
	for _, c := range clocks {
		Lacks(l, c)
		for _, n := range ints {
			for at := range l {
				a, fault := Clock(c, l[at:], n)
				b, again := Clock(c, l[at:], n)
				sorted, third := Sorted(c, l[at:], n)
				if fault.Err == api.OK || fault != again || fault != third || len(a)+len(b)+len(sorted) != 0 {
					t.Errorf("Clock(%v, from %d on, %d) = %v, %v", c, at, n, a, fault)
				}
			}
		}
	}
}

// roomy is a log with spare room behind it, and behind each Seen.
func roomy() []api.Update {
	room := []api.Update{
		by(1, 0, 0, 77, 77), by(0, 0, 0, 77, 77), by(0, 1, 1, 77, 77), by(5, 5, 5, 77, 77),
	}
	for i, u := range room {
		room[i].Seen = u.Seen[:2]
	}
	return room[:3]
}

// spoil writes over all of l, the spare room too.
func spoil(l []api.Update) {
	l = l[:cap(l)]
	for i, u := range l {
		fill(u.Seen)
		l[i] = api.Update{Author: 99, Seen: u.Seen}
	}
}

func fill[L ~[]int](l L) {
	l = l[:cap(l)]
	for i := range l {
		l[i] = 88
	}
}

// whole tells l and all its spare room.
func whole(l []api.Update) []api.Update {
	l = slices.Clone(l[:cap(l)])
	for i, u := range l {
		l[i].Seen = u.Seen[:cap(u.Seen)]
	}
	return l
}

func TestZ2OnlyRead(t *testing.T) {
	l := roomy()
	base := api.Clock{0, 0, 77}[:2]
	Clock(base, l, 2)
	Lacks(l, base)
	Heads(l)
	Sorted(base, l, 2)
	if !reflect.DeepEqual(whole(l), whole(roomy())) || !slices.Equal(base[:3], api.Clock{0, 0, 77}) {
		t.Errorf("what is handed in is changed: %v, %v", base[:3], whole(l))
	}
}

func TestZ2NewMemory(t *testing.T) {
	want := api.Clock{2, 1}
	base := api.Clock{0, 0, 77}[:2]
	l := roomy()
	c, _ := Clock(base, l, 2)
	none, _ := Clock(base, nil, 2)
	lacks := Lacks(l, base)
	sorted, _ := Sorted(base, l, 2)
	spoil(l)
	fill(base)
	if !slices.Equal(c, want) || !slices.Equal(none, api.Clock{0, 0}) {
		t.Errorf("the clock changes with what was handed in: %v, %v", c, none)
	}
	if !sameList(lacks, roomy()) {
		t.Errorf("what is lacking changes with what was handed in: %v", lacks)
	}
	if !sameList(sorted, list(by(0, 0, 0), by(1, 0, 0), by(0, 1, 1))) {
		t.Errorf("what is sorted changes with what was handed in: %v", sorted)
	}
}

// TestZ2OwnMemory spoils answers, one list of them after the other: neither what was handed in nor the lists behind change.
func TestZ2OwnMemory(t *testing.T) {
	l := roomy()
	base := api.Clock{0, 0, 77}[:2]
	sorted, _ := Sorted(base, l, 2)
	for _, answer := range [][]api.Update{Lacks(l, base), sorted} {
		kept := slices.Clone(answer)
		for i, u := range kept {
			kept[i] = update.Copy(u)
		}
		for i := range answer {
			if !slices.Equal(answer[i].Seen, kept[i].Seen) {
				t.Errorf("lists of one answer share memory: %v, not %v", answer, kept)
			}
			fill(answer[i].Seen)
		}
		spoil(answer)
	}
	c, _ := Clock(base, nil, 2)
	fill(c)
	fill(Heads(l))
	if !reflect.DeepEqual(whole(l), whole(roomy())) || !slices.Equal(base[:3], api.Clock{0, 0, 77}) {
		t.Errorf("what is handed in changes with what was answered: %v, %v", base[:3], whole(l))
	}
}

func TestCopy(t *testing.T) {
	l := roomy()
	got := Copy(l)
	if !sameList(got, l) || len(Copy(nil)) > 0 {
		t.Errorf("Copy(%v) = %v", l, got)
	}
	spoil(got)
	if !reflect.DeepEqual(whole(l), whole(roomy())) {
		t.Errorf("what is handed in changes with the copy: %v", whole(l))
	}
	got = Copy(l)
	spoil(l)
	if !sameList(got, roomy()) {
		t.Errorf("the copy changes with what was handed in: %v", got)
	}
}

// TestZ3 has nil, and lists without entries.
func TestZ3(t *testing.T) {
	for _, l := range [][]api.Update{nil, {}} {
		for _, none := range []api.Clock{nil, {}} {
			if c, fault := Clock(none, l, 1); len(c) != 0 || fault != (api.Fault{Err: api.ErrMany}) {
				t.Errorf("Clock(%v, %v, 1) = %v, %v", none, l, c, fault)
			}
			if got := Lacks(append(l, by(0, 0), api.Update{Seen: none}), none); len(got) != 2 {
				t.Errorf("Lacks(.., %v) = %v", none, got)
			}
			if got := Heads(append(l, by(0, 0), api.Update{Seen: none})); !slices.Equal(got, []int{0}) {
				t.Errorf("Heads = %v", got)
			}
		}
		if len(Heads(l)) != 0 || len(Lacks(l, api.Clock{1})) != 0 {
			t.Errorf("there is something in %v", l)
		}
	}
}
