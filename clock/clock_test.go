package clock

import (
	"math"
	"slices"
	"testing"

	"prunewell/api"
)

func TestA1Wrong(t *testing.T) {
	const most, last = api.MaxAuthors, api.MaxSeq
	for _, x := range []struct {
		name string
		c    api.Clock
		n    int
		want api.Errno
	}{
		{"one author", api.Clock{0}, 1, api.OK},
		{"two authors", api.Clock{3, 4}, 2, api.OK},
		{"most authors", make(api.Clock, most), most, api.OK},
		{"entry at MaxSeq", api.Clock{0, last}, 2, api.OK},
		{"entry below MaxSeq", api.Clock{last - 1, 0}, 2, api.OK},
		{"entry at 1", api.Clock{0, 1}, 2, api.OK},

		{"no author, nil", nil, 0, api.ErrMany},
		{"no author, empty", api.Clock{}, 0, api.ErrMany},
		{"no author, one entry", api.Clock{0}, 0, api.ErrMany},
		{"one author too many", make(api.Clock, most+1), most + 1, api.ErrMany},
		{"fewer than none", nil, -1, api.ErrMany},
		{"least int", api.Clock{0}, math.MinInt, api.ErrMany},
		{"greatest int", api.Clock{0}, math.MaxInt, api.ErrMany},
		{"nil of one", nil, 1, api.ErrMany},
		{"empty of one", api.Clock{}, 1, api.ErrMany},
		{"an entry too few", api.Clock{0, 0}, 3, api.ErrMany},
		{"an entry too many", api.Clock{0, 0}, 1, api.ErrMany},

		{"entry above MaxSeq", api.Clock{last + 1, 0}, 2, api.ErrRange},
		{"last entry above MaxSeq", api.Clock{0, last + 1}, 2, api.ErrRange},
		{"entry below 0", api.Clock{-1, 0}, 2, api.ErrRange},
		{"last entry below 0", api.Clock{0, -1}, 2, api.ErrRange},
		{"greatest entry", api.Clock{math.MaxInt}, 1, api.ErrRange},
		{"least entry", api.Clock{math.MinInt}, 1, api.ErrRange},

		{"many ahead of range", api.Clock{-1, 0}, 3, api.ErrMany},
		{"many ahead of range, n", api.Clock{-1, 0, 0, 0, 0, 0, 0}, most + 1, api.ErrMany},
		{"spare room is no entry", api.Clock{0, 5, -1}[:2], 2, api.OK},
		{"spare room does not fill up", api.Clock{0, 5, 1}[:2], 3, api.ErrMany},
	} {
		if got := Wrong(x.c, x.n); got != x.want {
			t.Errorf("%s: Wrong(%v, %d) = %d, not %d", x.name, x.c, x.n, got, x.want)
		}
	}
}

func TestA1Pairs(t *testing.T) {
	for _, x := range []struct {
		name       string
		a, b       api.Clock
		join, meet api.Clock
		sees       bool
	}{
		{"example 1", api.Clock{1, 2}, api.Clock{2, 1}, api.Clock{2, 2}, api.Clock{1, 1}, false},
		{"the same", api.Clock{1, 2}, api.Clock{1, 2}, api.Clock{1, 2}, api.Clock{1, 2}, true},
		{"more", api.Clock{2, 2}, api.Clock{1, 2}, api.Clock{2, 2}, api.Clock{1, 2}, true},
		{"less", api.Clock{1, 2}, api.Clock{2, 2}, api.Clock{2, 2}, api.Clock{1, 2}, false},
		{"less at the end alone", api.Clock{9, 9, 0}, api.Clock{1, 1, 1}, api.Clock{9, 9, 1}, api.Clock{1, 1, 0}, false},
		{"nil and nil", nil, nil, nil, nil, true},
		{"nil and empty", nil, api.Clock{}, nil, nil, true},
		{"empty and nil", api.Clock{}, nil, nil, nil, true},
		{"nil and noughts", nil, api.Clock{0, 0}, api.Clock{0, 0}, api.Clock{0, 0}, true},
		{"noughts and nil", api.Clock{0, 0}, nil, api.Clock{0, 0}, api.Clock{0, 0}, true},
		{"nil and some", nil, api.Clock{0, 1}, api.Clock{0, 1}, api.Clock{0, 0}, false},
		{"some and empty", api.Clock{0, 1}, api.Clock{}, api.Clock{0, 1}, api.Clock{0, 0}, true},
		{"longer by a nought", api.Clock{1, 2}, api.Clock{1, 2, 0}, api.Clock{1, 2, 0}, api.Clock{1, 2, 0}, true},
		{"longer by one seen", api.Clock{1, 2}, api.Clock{1, 2, 3}, api.Clock{1, 2, 3}, api.Clock{1, 2, 0}, false},
		{"shorter by one seen", api.Clock{1, 2, 3}, api.Clock{1, 2}, api.Clock{1, 2, 3}, api.Clock{1, 2, 0}, true},
		{"wrong: longer, below 0", api.Clock{1}, api.Clock{1, -1}, api.Clock{1, 0}, api.Clock{1, -1}, true},
		{"wrong: shorter, below 0", api.Clock{1, -1}, api.Clock{1}, api.Clock{1, 0}, api.Clock{1, -1}, false},
		{"wrong: both below 0", api.Clock{-3}, api.Clock{-2}, api.Clock{-2}, api.Clock{-3}, false},
		{"wrong: too much", api.Clock{api.MaxSeq + 1}, api.Clock{api.MaxSeq}, api.Clock{api.MaxSeq + 1}, api.Clock{api.MaxSeq}, true},
		{"wrong: far apart", api.Clock{math.MaxInt, math.MinInt}, api.Clock{math.MinInt, math.MaxInt}, api.Clock{math.MaxInt, math.MaxInt}, api.Clock{math.MinInt, math.MinInt}, false},
		{"wrong: too long", make(api.Clock, api.MaxAuthors+1), nil, make(api.Clock, api.MaxAuthors+1), make(api.Clock, api.MaxAuthors+1), true},
		{"spare room is no entry", api.Clock{1, 9}[:1], api.Clock{1, 2}, api.Clock{1, 2}, api.Clock{1, 0}, false},
	} {
		if got := Join(x.a, x.b); !slices.Equal(got, x.join) {
			t.Errorf("%s: Join(%v, %v) = %v, not %v", x.name, x.a, x.b, got, x.join)
		}
		if got := Meet(x.a, x.b); !slices.Equal(got, x.meet) {
			t.Errorf("%s: Meet(%v, %v) = %v, not %v", x.name, x.a, x.b, got, x.meet)
		}
		if got := Sees(x.a, x.b); got != x.sees {
			t.Errorf("%s: Sees(%v, %v) = %v, not %v", x.name, x.a, x.b, got, x.sees)
		}
	}
}

// smallClocks answers all clocks of at most two authors with entries from 0 to 2.
func smallClocks() []api.Clock {
	out := []api.Clock{nil, {}}
	for x := range 3 {
		out = append(out, api.Clock{x})
		for y := range 3 {
			out = append(out, api.Clock{x, y})
		}
	}
	return out
}

func TestA1LeastThatSeesBoth(t *testing.T) {
	all := smallClocks()
	for _, a := range all {
		for _, b := range all {
			join, meet := Join(a, b), Meet(a, b)
			if !Sees(join, a) || !Sees(join, b) {
				t.Errorf("Join(%v, %v) = %v does not see both", a, b, join)
			}
			if !Sees(a, meet) || !Sees(b, meet) {
				t.Errorf("Meet(%v, %v) = %v is not seen by both", a, b, meet)
			}
			if !slices.Equal(join, Join(b, a)) || !slices.Equal(meet, Meet(b, a)) {
				t.Errorf("%v and %v come to something else the other way round", a, b)
			}
			for _, c := range all {
				if Sees(c, a) && Sees(c, b) && !Sees(c, join) {
					t.Errorf("%v sees %v and %v, but not their Join %v", c, a, b, join)
				}
				if Sees(a, c) && Sees(b, c) && !Sees(meet, c) {
					t.Errorf("%v and %v see %v, but their Meet %v does not", a, b, c, meet)
				}
			}
		}
	}
}

func TestA1Has(t *testing.T) {
	c := api.Clock{2, 0, api.MaxSeq}
	for _, x := range []struct {
		name        string
		c           api.Clock
		author, seq int
		want        bool
	}{
		{"less", c, 0, 1, true},
		{"as many", c, 0, 2, true},
		{"one more", c, 0, 3, false},
		{"none of none", c, 1, 0, true},
		{"one of none", c, 1, 1, false},
		{"MaxSeq", c, 2, api.MaxSeq, true},
		{"one more than MaxSeq", c, 2, api.MaxSeq + 1, false},
		{"below 0", c, 1, -5, true},
		{"least", c, 1, math.MinInt, true},
		{"greatest", c, 2, math.MaxInt, false},
		{"author below 0", c, -1, 0, false},
		{"author behind the end", c, 3, 0, false},
		{"author behind the end, below 0", c, 3, -5, false},
		{"least author", c, math.MinInt, -5, false},
		{"greatest author", c, math.MaxInt, -5, false},
		{"nil", nil, 0, 0, false},
		{"nil, below 0", nil, 0, -1, false},
		{"empty", api.Clock{}, 0, 0, false},
		{"wrong entry", api.Clock{-1}, 0, 0, false},
		{"wrong entry, as many", api.Clock{-1}, 0, -1, true},
		{"spare room is no author", api.Clock{1, 9}[:1], 1, 1, false},
	} {
		if got := Has(x.c, x.author, x.seq); got != x.want {
			t.Errorf("%s: Has(%v, %d, %d) = %v, not %v", x.name, x.c, x.author, x.seq, got, x.want)
		}
	}
}

func TestA1HasAuthor(t *testing.T) {
	for _, x := range []struct {
		c      api.Clock
		author int
		want   bool
	}{
		{api.Clock{0, 0}, 0, true},
		{api.Clock{0, 0}, 1, true},
		{api.Clock{-1, -1}, 1, true},
		{api.Clock{0, 0}, 2, false},
		{api.Clock{0, 0}, -1, false},
		{api.Clock{0, 0}, math.MaxInt, false},
		{api.Clock{0, 0}, math.MinInt, false},
		{api.Clock{0, 0}[:1], 1, false},
		{api.Clock{}, 0, false},
		{nil, 0, false},
	} {
		if got := HasAuthor(x.c, x.author); got != x.want {
			t.Errorf("HasAuthor(%v, %d) = %v, not %v", x.c, x.author, got, x.want)
		}
	}
}

func TestA1Tick(t *testing.T) {
	for _, x := range []struct {
		name   string
		c      api.Clock
		author int
		want   api.Clock
	}{
		{"first", api.Clock{1, 2, 3}, 0, api.Clock{2, 2, 3}},
		{"last", api.Clock{1, 2, 3}, 2, api.Clock{1, 2, 4}},
		{"from 0", api.Clock{0}, 0, api.Clock{1}},
		{"to MaxSeq", api.Clock{api.MaxSeq - 1}, 0, api.Clock{api.MaxSeq}},
		{"beyond MaxSeq", api.Clock{api.MaxSeq}, 0, api.Clock{api.MaxSeq + 1}},
		{"from below 0", api.Clock{-1, 0}, 0, api.Clock{0, 0}},
		{"wraps round as int does", api.Clock{math.MaxInt}, 0, api.Clock{math.MinInt}},
		{"author below 0", api.Clock{1, 2}, -1, api.Clock{1, 2}},
		{"author behind the end", api.Clock{1, 2}, 2, api.Clock{1, 2}},
		{"least author", api.Clock{1, 2}, math.MinInt, api.Clock{1, 2}},
		{"greatest author", api.Clock{1, 2}, math.MaxInt, api.Clock{1, 2}},
		{"nil", nil, 0, nil},
		{"empty", api.Clock{}, 0, nil},
		{"spare room is no author", api.Clock{1, 9}[:1], 1, api.Clock{1}},
	} {
		if got := Tick(x.c, x.author); !slices.Equal(got, x.want) {
			t.Errorf("%s: Tick(%v, %d) = %v, not %v", x.name, x.c, x.author, got, x.want)
		}
	}
}

func TestA1Copy(t *testing.T) {
	for _, c := range []api.Clock{nil, {}, {0}, {3, -4, math.MaxInt}, api.Clock{1, 2, 3}[:2]} {
		if got := Copy(c); !slices.Equal(got, c) {
			t.Errorf("Copy(%v) = %v", c, got)
		}
	}
}

// roomy has the entries, and spare room behind them that is marked.
func roomy(entries ...int) api.Clock {
	room := make(api.Clock, len(entries)+3)
	fill(room, 77)
	copy(room, entries)
	return room[:len(entries)]
}

// fill writes into all of c, the spare room too.
func fill(c api.Clock, x int) {
	c = c[:cap(c)]
	for i := range c {
		c[i] = x
	}
}

// sameRoom tells whether two have the same entries, and the same in their spare room.
func sameRoom(a, b api.Clock) bool {
	return slices.Equal(a[:cap(a)], b[:cap(b)])
}

// TestZ2 holds each call that answers a clock to leaving alone what it was
// given, and to answering memory that is the caller's.
func TestZ2(t *testing.T) {
	for _, x := range []struct {
		name string
		call func(a, b api.Clock) api.Clock
	}{
		{"Join", Join},
		{"Join, the other way round", func(a, b api.Clock) api.Clock { return Join(b, a) }},
		{"Meet", Meet},
		{"Meet, the other way round", func(a, b api.Clock) api.Clock { return Meet(b, a) }},
		{"Join with nil", func(a, _ api.Clock) api.Clock { return Join(a, nil) }},
		{"Join of nil", func(a, _ api.Clock) api.Clock { return Join(nil, a) }},
		{"Join with itself", func(a, _ api.Clock) api.Clock { return Join(a, a) }},
		{"Meet with itself", func(a, _ api.Clock) api.Clock { return Meet(a, a) }},
		{"Tick", func(a, _ api.Clock) api.Clock { return Tick(a, 1) }},
		{"Tick of none", func(a, _ api.Clock) api.Clock { return Tick(a, 3) }},
		{"Tick of nothing", func(a, _ api.Clock) api.Clock { return Tick(a[:0], 0) }},
		{"Copy", func(a, _ api.Clock) api.Clock { return Copy(a) }},
		{"Copy of nothing", func(a, _ api.Clock) api.Clock { return Copy(a[:0]) }},
	} {
		a, b := roomy(1, 2, 3), roomy(2, 1)
		got := x.call(a, b)
		kept := slices.Clone(got)
		if !sameRoom(a, roomy(1, 2, 3)) || !sameRoom(b, roomy(2, 1)) {
			t.Errorf("%s: changes what is handed in", x.name)
		}
		fill(a, 55)
		fill(b, 55)
		if !slices.Equal(got, kept) {
			t.Errorf("%s: the answer changes with what was handed in", x.name)
		}
		fill(got, 66)
		if slices.Contains(a[:cap(a)], 66) || slices.Contains(b[:cap(b)], 66) {
			t.Errorf("%s: what was handed in changes with the answer", x.name)
		}
		if again := x.call(roomy(1, 2, 3), roomy(2, 1)); !slices.Equal(again, kept) {
			t.Errorf("%s: answers %v, then %v", x.name, kept, again)
		}
	}
}

// TestZ2Questions holds the calls that answer no clock to only reading.
func TestZ2Questions(t *testing.T) {
	a, b := roomy(1, 2, 3), roomy(2, 1)
	Wrong(a, 3)
	Wrong(b, 7)
	Sees(a, b)
	Sees(b, a)
	Has(a, 1, 1)
	Has(b, 3, 1)
	if !sameRoom(a, roomy(1, 2, 3)) || !sameRoom(b, roomy(2, 1)) {
		t.Error("what is handed in is changed")
	}
}
