package update

import (
	"bytes"
	"math"
	"reflect"
	"slices"
	"testing"

	"prunewell/api"
)

const (
	last = api.MaxSeq
	most = api.MaxAuthors
)

// right is a right update among two authors, in new memory.
func right() api.Update {
	return api.Update{Author: 1, Seen: api.Clock{3, 400}, Kind: api.Put, Key: 5, Item: -6}
}

// with is the right update, changed.
func with(change func(u *api.Update)) api.Update {
	u := right()
	change(&u)
	return u
}

// kind is the right update of another kind, with another item.
func kind(k, item int) api.Update {
	return with(func(u *api.Update) { u.Kind, u.Item = k, item })
}

func key(k int) api.Update {
	return with(func(u *api.Update) { u.Key = k })
}

// by is the right update of another author, who saw another clock.
func by(author int, seen ...int) api.Update {
	return with(func(u *api.Update) { u.Author, u.Seen = author, seen })
}

func TestB1Wrong(t *testing.T) {
	for _, x := range []struct {
		name string
		u    api.Update
		n    int
		want api.Errno
	}{
		{"right", right(), 2, api.OK},
		{"first author", by(0, 3, 400), 2, api.OK},
		{"one author", by(0, 0), 1, api.OK},
		{"most authors", by(most-1, make([]int, most)...), most, api.OK},
		{"the author's last", by(1, 3, last-1), 2, api.OK},
		{"another's are MaxSeq", by(1, last, 3), 2, api.OK},
		{"Put", kind(api.Put, 7), 2, api.OK},
		{"Put of 0", kind(api.Put, 0), 2, api.OK},
		{"Clear", kind(api.Clear, 0), 2, api.OK},
		{"Add", kind(api.Add, -7), 2, api.OK},
		{"Remove", kind(api.Remove, 7), 2, api.OK},
		{"Count", kind(api.Count, -7), 2, api.OK},
		{"Count of 0", kind(api.Count, 0), 2, api.OK},
		{"greatest item", kind(api.Count, api.MaxItem), 2, api.OK},
		{"least item", kind(api.Count, -api.MaxItem), 2, api.OK},
		{"least key", key(0), 2, api.OK},
		{"greatest key", key(api.MaxKey), 2, api.OK},

		{"no authors", by(0), 0, api.ErrMany},
		{"nil of one", by(0, nil...), 1, api.ErrMany},
		{"empty of one", by(0, []int{}...), 1, api.ErrMany},
		{"too many authors", by(0, make([]int, most+1)...), most + 1, api.ErrMany},
		{"below no authors", by(0), -1, api.ErrMany},
		{"seen has too few", right(), 3, api.ErrMany},
		{"seen has too many", right(), 1, api.ErrMany},
		{"spare room is not seen", by(0, []int{1, 2, 3}[:2]...), 3, api.ErrMany},
		{"seen too much", by(1, last+1, 3), 2, api.ErrRange},
		{"seen below 0", by(1, -1, 3), 2, api.ErrRange},
		{"author saw too much", by(1, 3, last+1), 2, api.ErrRange},

		{"author below 0", by(-1, 3, 400), 2, api.ErrRange},
		{"author is n", by(2, 3, 400), 2, api.ErrRange},
		{"least author", by(math.MinInt, 3, 400), 2, api.ErrRange},
		{"greatest author", by(math.MaxInt, 3, 400), 2, api.ErrRange},
		{"author in the spare room", by(2, []int{1, 2, 3}[:2]...), 2, api.ErrRange},
		{"author's are MaxSeq", by(1, 3, last), 2, api.ErrRange},
		{"first author's are MaxSeq", by(0, last, 3), 2, api.ErrRange},

		{"kind 0", kind(0, 0), 2, api.ErrKind},
		{"kind behind the last", kind(api.Count+1, 0), 2, api.ErrKind},
		{"kind below 0", kind(-1, 0), 2, api.ErrKind},
		{"kind of a byte more", kind(256+api.Put, 0), 2, api.ErrKind},
		{"greatest kind", kind(math.MaxInt, 0), 2, api.ErrKind},

		{"key below 0", key(-1), 2, api.ErrRange},
		{"key above MaxKey", key(api.MaxKey + 1), 2, api.ErrRange},
		{"least key of all", key(math.MinInt), 2, api.ErrRange},
		{"item above MaxItem", kind(api.Put, api.MaxItem+1), 2, api.ErrRange},
		{"item below -MaxItem", kind(api.Put, -api.MaxItem-1), 2, api.ErrRange},
		{"least item of all", kind(api.Put, math.MinInt), 2, api.ErrRange},
		{"greatest item of all", kind(api.Put, math.MaxInt), 2, api.ErrRange},

		{"Clear of 1", kind(api.Clear, 1), 2, api.ErrForm},
		{"Clear of -1", kind(api.Clear, -1), 2, api.ErrForm},
		{"Clear of MaxItem", kind(api.Clear, api.MaxItem), 2, api.ErrForm},
	} {
		if got := Wrong(x.u, x.n); got != x.want {
			t.Errorf("%s: Wrong(%v, %d) = %d, not %d", x.name, x.u, x.n, got, x.want)
		}
	}
}

// TestB1FirstError has two things wrong at once: the one that is named first is told.
func TestB1FirstError(t *testing.T) {
	for _, x := range []struct {
		name string
		u    api.Update
		n    int
		want api.Errno
	}{
		{"number of authors, author", by(5, 3, 4), 3, api.ErrMany},
		{"number of authors, entry", by(1, -1, 4), 3, api.ErrMany},
		{"seen, kind", api.Update{Author: 0, Seen: api.Clock{-1}}, 1, api.ErrRange},
		{"author, kind", api.Update{Author: 2, Seen: api.Clock{1, 2}}, 2, api.ErrRange},
		{"author's are MaxSeq, kind", api.Update{Author: 0, Seen: api.Clock{last}}, 1, api.ErrRange},
		{"author, Clear's item", api.Update{Author: 2, Seen: api.Clock{1, 2}, Kind: api.Clear, Item: 1}, 2, api.ErrRange},
		{"kind, key", api.Update{Seen: api.Clock{1}, Key: -1}, 1, api.ErrKind},
		{"kind, item", api.Update{Seen: api.Clock{1}, Item: api.MaxItem + 1}, 1, api.ErrKind},
		{"key, Clear's item", api.Update{Seen: api.Clock{1}, Kind: api.Clear, Key: -1, Item: 1}, 1, api.ErrRange},
		{"item, Clear's item", api.Update{Seen: api.Clock{1}, Kind: api.Clear, Item: api.MaxItem + 1}, 1, api.ErrRange},
	} {
		if got := Wrong(x.u, x.n); got != x.want {
			t.Errorf("%s: Wrong(%v, %d) = %d, not %d", x.name, x.u, x.n, got, x.want)
		}
		if b, err := Bytes(x.u, x.n); err != x.want || len(b) != 0 {
			t.Errorf("%s: Bytes(%v, %d) = %v, %d, not the error %d alone", x.name, x.u, x.n, b, err, x.want)
		}
	}
}

func TestB1Seq(t *testing.T) {
	for _, x := range []struct {
		name string
		u    api.Update
		want int
	}{
		{"first of its author", by(0, 0, 9), 1},
		{"second of its author", by(1, 9, 1), 2},
		{"some", right(), 401},
		{"the author's last", by(0, last-1), last},
		{"the other's are MaxSeq", by(1, last, 0), 1},
		{"wrong: author behind the end", by(2, 3, 4), 0},
		{"wrong: author below 0", by(-1, 3, 4), 0},
		{"wrong: least author", by(math.MinInt, 3, 4), 0},
		{"wrong: greatest author", by(math.MaxInt, 3, 4), 0},
		{"wrong: seen is nil", by(0, nil...), 0},
		{"wrong: seen is empty", by(0, []int{}...), 0},
		{"wrong: author in the spare room", by(2, []int{1, 2, 3}[:2]...), 0},
	} {
		if got := Seq(x.u); got != x.want {
			t.Errorf("%s: Seq(%v) = %d, not %d", x.name, x.u, got, x.want)
		}
	}
}

func TestB1SeenBy(t *testing.T) {
	for _, x := range []struct {
		name string
		u    api.Update
		c    api.Clock
		want bool
	}{
		{"just so many", by(0, 3, 400), api.Clock{4, 0}, true},
		{"more", by(0, 3, 400), api.Clock{5, 0}, true},
		{"one fewer", by(0, 3, 400), api.Clock{3, 400}, false},
		{"the other author's", by(1, 3, 400), api.Clock{0, 401}, true},
		{"the other author's, one fewer", by(1, 3, 400), api.Clock{999, 400}, false},
		{"the author's last", by(0, last-1), api.Clock{last}, true},
		{"the clock has not that author", by(1, 3, 0), api.Clock{9}, false},
		{"a clock without entries", by(0, -9), nil, false},
		{"the clock's spare room", by(1, 3, 0), api.Clock{9, 9}[:1], false},
		{"Seen has not that author", by(1, 3), api.Clock{9, 9}, false},
		{"Seen without entries", by(0), api.Clock{9, 9}, false},
		{"author below 0", by(-1, 3, 4), api.Clock{9, 9}, false},
		{"greatest author", by(math.MaxInt, 3, 4), api.Clock{9, 9}, false},
	} {
		if got := SeenBy(x.u, x.c); got != x.want {
			t.Errorf("%s: SeenBy(%v, %v) = %t, not %t", x.name, x.u, x.c, got, x.want)
		}
	}
}

func TestZ2Copy(t *testing.T) {
	u := right()
	u.Seen = roomy(u.Seen...)
	got := Copy(u)
	fill(u.Seen, 55)
	if !reflect.DeepEqual(got, right()) {
		t.Errorf("Copy(%v) = %v", right(), got)
	}
	fill(got.Seen, 66)
	if slices.Contains(u.Seen[:cap(u.Seen)], 66) {
		t.Error("what was copied changes with the copy")
	}
	if none := Copy(api.Update{Key: 1}); none.Key != 1 || len(none.Seen) != 0 {
		t.Errorf("Copy of an update that saw nothing is %v", none)
	}
}

// written are updates, and the bytes that stand for them.
func written() []struct {
	name string
	u    api.Update
	b    []byte
} {
	return []struct {
		name string
		u    api.Update
		b    []byte
	}{
		{"example 2: two authors, ten bytes", right(), []byte{2, 1, 1, 5, 3, 226, 0, 3, 1, 144}},
		{"one author", api.Update{Seen: api.Clock{0}, Kind: api.Clear}, []byte{1, 0, 2, 0, 3, 232, 0, 0}},
		{"least item", kind(api.Count, -api.MaxItem), []byte{2, 1, 5, 5, 0, 0, 0, 3, 1, 144}},
		{"greatest item", kind(api.Add, api.MaxItem), []byte{2, 1, 3, 5, 7, 208, 0, 3, 1, 144}},
		{"item 24: no high byte lost", kind(api.Remove, 24), []byte{2, 1, 4, 5, 4, 0, 0, 3, 1, 144}},
		{"greatest key", key(api.MaxKey), []byte{2, 1, 1, 15, 3, 226, 0, 3, 1, 144}},
		{"greatest entries", by(1, last, last-1), []byte{2, 1, 1, 5, 3, 226, 3, 232, 3, 231}},
		{"most authors", by(5, 1, 2, 3, 255, 256, 257), []byte{6, 5, 1, 5, 3, 226, 0, 1, 0, 2, 0, 3, 0, 255, 1, 0, 1, 1}},
	}
}

func TestB2Bytes(t *testing.T) {
	for _, x := range written() {
		b, err := Bytes(x.u, len(x.u.Seen))
		if err != api.OK || !bytes.Equal(b, x.b) {
			t.Errorf("%s: Bytes(%v) = %v, %d, not %v", x.name, x.u, b, err, x.b)
		}
	}
}

func TestB2BytesRefused(t *testing.T) {
	for _, x := range []struct {
		name string
		u    api.Update
		n    int
		want api.Errno
	}{
		{"no authors", by(0), 0, api.ErrMany},
		{"too few authors", right(), 1, api.ErrMany},
		{"too many authors", right(), 3, api.ErrMany},
		{"a byte's worth more authors", right(), 258, api.ErrMany},
		{"author is none", by(2, 3, 4), 2, api.ErrRange},
		{"author's are MaxSeq", by(1, 3, last), 2, api.ErrRange},
		{"kind", kind(6, 0), 2, api.ErrKind},
		{"key", key(16), 2, api.ErrRange},
		{"item", kind(api.Put, api.MaxItem+1), 2, api.ErrRange},
		{"Clear of 1", kind(api.Clear, 1), 2, api.ErrForm},
	} {
		if b, err := Bytes(x.u, x.n); err != x.want || len(b) != 0 {
			t.Errorf("%s: Bytes(%v, %d) = %v, %d, not the error %d alone", x.name, x.u, x.n, b, err, x.want)
		}
	}
}

func TestB2Parse(t *testing.T) {
	for _, x := range written() {
		u, n, err := Parse(x.b)
		if err != api.OK || n != len(x.u.Seen) || !reflect.DeepEqual(u, x.u) {
			t.Errorf("%s: Parse(%v) = %v, %d, %d, not %v", x.name, x.b, u, n, err, x.u)
		}
	}
}

func TestB2ParseRefused(t *testing.T) {
	for _, x := range []struct {
		name string
		b    []byte
		want api.Errno
	}{
		{"nil", nil, api.ErrForm},
		{"empty", []byte{}, api.ErrForm},
		{"five bytes", []byte{0, 0, 1, 0, 3}, api.ErrForm},
		{"six bytes of one author", []byte{1, 0, 1, 0, 3, 232}, api.ErrForm},
		{"seven bytes of one author", []byte{1, 0, 1, 0, 3, 232, 0}, api.ErrForm},
		{"nine bytes of one author", []byte{1, 0, 1, 0, 3, 232, 0, 0, 0}, api.ErrForm},
		{"ten bytes of one author", []byte{1, 0, 1, 0, 3, 232, 0, 0, 0, 0}, api.ErrForm},
		{"eight bytes of two authors", []byte{2, 0, 1, 0, 3, 232, 0, 0}, api.ErrForm},
		{"eight bytes of no author", []byte{0, 0, 1, 0, 3, 232, 0, 0}, api.ErrForm},
		{"spare room is not read", []byte{1, 0, 1, 0, 3, 232, 0, 0}[:7], api.ErrForm},
		{"too short for too many", append([]byte{255, 0, 1, 0, 3, 232}, make([]byte, 2*254)...), api.ErrForm},
		{"form ahead of all else", []byte{2, 9, 9, 99, 255, 255, 255, 255, 255}, api.ErrForm},

		{"no author", []byte{0, 0, 1, 0, 3, 232}, api.ErrMany},
		{"seven authors", append([]byte{7, 0, 1, 0, 3, 232}, make([]byte, 2*7)...), api.ErrMany},
		{"255 authors", append([]byte{255, 0, 1, 0, 3, 232}, make([]byte, 2*255)...), api.ErrMany},
		{"entry above MaxSeq", []byte{2, 0, 1, 0, 3, 232, 0, 0, 3, 233}, api.ErrRange},
		{"greatest entry", []byte{2, 0, 1, 0, 3, 232, 0, 0, 255, 255}, api.ErrRange},
		{"author is n", []byte{2, 2, 1, 0, 3, 232, 0, 0, 0, 0}, api.ErrRange},
		{"author 255", []byte{2, 255, 1, 0, 3, 232, 0, 0, 0, 0}, api.ErrRange},
		{"author's are MaxSeq", []byte{2, 1, 1, 0, 3, 232, 0, 0, 3, 232}, api.ErrRange},
		{"kind 0", []byte{1, 0, 0, 0, 3, 232, 0, 0}, api.ErrKind},
		{"kind 6", []byte{1, 0, 6, 0, 3, 232, 0, 0}, api.ErrKind},
		{"key 16", []byte{1, 0, 1, 16, 3, 232, 0, 0}, api.ErrRange},
		{"item 1001", []byte{1, 0, 1, 0, 7, 209, 0, 0}, api.ErrRange},
		{"greatest item", []byte{1, 0, 1, 0, 255, 255, 0, 0}, api.ErrRange},
		{"Clear of 1", []byte{1, 0, 2, 0, 3, 233, 0, 0}, api.ErrForm},
		{"Clear of -1", []byte{1, 0, 2, 0, 3, 231, 0, 0}, api.ErrForm},
		{"kind ahead of key", []byte{1, 0, 0, 16, 3, 232, 0, 0}, api.ErrKind},
	} {
		u, n, err := Parse(x.b)
		if err != x.want || n != 0 || !reflect.DeepEqual(u, api.Update{}) {
			t.Errorf("%s: Parse(%v) = %v, %d, %d, not the error %d alone", x.name, x.b, u, n, err, x.want)
		}
	}
}

// someUpdates are right updates: each kind, author and number of authors, with the edges of key, item and entries.
func someUpdates() []api.Update {
	var out []api.Update
	for n := 1; n <= most; n++ {
		for author := range n {
			for k := api.Put; k <= api.Count; k++ {
				for _, item := range []int{-1000, -999, -745, -744, -1, 0, 1, 23, 24, 279, 280, 1000} {
					if k == api.Clear {
						item = 0
					}
					seen := make(api.Clock, n)
					for i := range seen {
						seen[i] = (item + 1000 + 77*i) % last
					}
					out = append(out, api.Update{Author: author, Seen: seen, Kind: k, Key: (item + 1000 + author) % 16, Item: item})
				}
			}
		}
	}
	return out
}

func TestB2ThereAndBack(t *testing.T) {
	for _, u := range someUpdates() {
		b, err := Bytes(u, len(u.Seen))
		if err != api.OK || len(b) != 6+2*len(u.Seen) {
			t.Fatalf("Bytes(%v) = %v, %d", u, b, err)
		}
		back, n, err := Parse(b)
		if err != api.OK || n != len(u.Seen) || !reflect.DeepEqual(back, u) {
			t.Errorf("%v comes back from %v as %v, %d, %d", u, b, back, n, err)
		}
		for k := range b {
			if v, m, err := Parse(b[:k]); err != api.ErrForm || m != 0 || !reflect.DeepEqual(v, api.Update{}) {
				t.Errorf("Parse(%v) = %v, %d, %d, not the error %d alone", b[:k], v, m, err, api.ErrForm)
			}
		}
	}
}

// TestB2OneWriting has each byte changed to each other one: what is still right is written so, and no other way.
func TestB2OneWriting(t *testing.T) {
	for _, x := range written() {
		for at := range x.b {
			for to := range 256 {
				b := bytes.Clone(x.b)
				b[at] = byte(to)
				u, n, err := Parse(b)
				if err != api.OK {
					continue
				}
				if again, err := Bytes(u, n); err != api.OK || !bytes.Equal(again, b) {
					t.Errorf("Parse(%v) = %v, which is written %v, %d", b, u, again, err)
				}
			}
		}
	}
}

// roomy has the entries, and spare room behind them that is marked.
func roomy[T int | byte](entries ...T) []T {
	room := slices.Repeat([]T{77}, len(entries)+3)
	copy(room, entries)
	return room[:len(entries)]
}

// fill writes into all of l, the spare room too.
func fill[T int | byte](l []T, x T) {
	l = l[:cap(l)]
	for i := range l {
		l[i] = x
	}
}

func sameRoom[T int | byte](a, b []T) bool {
	return slices.Equal(a[:cap(a)], b[:cap(b)])
}

func TestZ2Bytes(t *testing.T) {
	seen := roomy(3, 400)
	u := by(1, seen...)
	b, _ := Bytes(u, 2)
	kept := bytes.Clone(b)
	Wrong(u, 2)
	Seq(u)
	if !sameRoom(seen, roomy(3, 400)) {
		t.Error("what is handed in is changed")
	}
	fill(seen, 55)
	if !bytes.Equal(b, kept) {
		t.Error("the bytes change with the update")
	}
	fill(b, 66)
	if again, _ := Bytes(right(), 2); !bytes.Equal(again, kept) {
		t.Errorf("the bytes are %v, then %v", kept, again)
	}
}

func TestZ2Parse(t *testing.T) {
	b := roomy[byte](2, 1, 1, 5, 3, 226, 0, 3, 1, 144)
	kept := slices.Clone(b[:cap(b)])
	u, _, _ := Parse(b)
	if !bytes.Equal(b[:cap(b)], kept) {
		t.Error("what is handed in is changed")
	}
	fill(b, 55)
	if !reflect.DeepEqual(u, right()) {
		t.Error("the update changes with the bytes")
	}
	fill(u.Seen, 66)
	if again, _, _ := Parse(kept[:len(b)]); !reflect.DeepEqual(again, right()) {
		t.Errorf("the update is %v, then %v", right(), again)
	}
}
