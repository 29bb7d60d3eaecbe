package world

import (
	"fmt"
	"math"
	"reflect"
	"slices"
	"strings"
	"testing"

	"prunewell/api"
)

// spread tells x with all the spare room of its lists.
func spread(x any) string {
	var out strings.Builder
	var tell func(v reflect.Value)
	tell = func(v reflect.Value) {
		switch v.Kind() {
		case reflect.Slice:
			fmt.Fprintf(&out, "%d[", v.Len())
			for i := range v.Cap() {
				tell(v.Slice(0, v.Cap()).Index(i))
			}
			out.WriteString("]")
		case reflect.Struct:
			for i := range v.NumField() {
				tell(v.Field(i))
			}
		default:
			fmt.Fprint(&out, v.Interface(), " ")
		}
	}
	tell(reflect.ValueOf(x))
	return out.String()
}

// span is the memory of a list, with its spare room.
type span struct{ from, to uintptr }

// spans are the memory of all lists in x.
func spans(x any) []span {
	var out []span
	var find func(v reflect.Value)
	find = func(v reflect.Value) {
		switch v.Kind() {
		case reflect.Slice:
			if v.Cap() > 0 {
				out = append(out, span{v.Pointer(), v.Pointer() + uintptr(v.Cap())*v.Type().Elem().Size()})
			}
			for i := range v.Len() {
				find(v.Index(i))
			}
		case reflect.Struct:
			for i := range v.NumField() {
				find(v.Field(i))
			}
		}
	}
	find(reflect.ValueOf(x))
	return out
}

// checkApart tells if two of these share memory, of one thing or of two.
func checkApart(t *testing.T, things ...any) {
	t.Helper()
	var all []span
	for _, x := range things {
		all = append(all, spans(x)...)
	}
	slices.SortFunc(all, func(a, b span) int {
		if a.from < b.from {
			return -1
		}
		return 1
	})
	for i := 1; i < len(all); i++ {
		if all[i].from < all[i-1].to {
			t.Errorf("two lists share memory")
			return
		}
	}
}

// roomy is l with spare room that goes on as if l did, and updates whose Seen have some too.
func roomy(l []api.Do) []api.Do {
	out := make([]api.Do, 0, len(l)+3)
	for _, do := range append(slices.Clone(l), put(0, 1, 1), prune(1), send(0, 1)) {
		do.Update.Seen = append(make(api.Clock, 0, 5), 3, 2, 1)[:2]
		out = append(out, do)
	}
	return out[:len(l)]
}

// lists are some that three nodes play.
func lists() [][]api.Do {
	out := [][]api.Do{nil, middle(), append(middle(), deliver(1, 0), drop(0, 1), deliver(2, 1), prune(1))}
	for first := range 6 {
		out = append(out, things(picker(first), 3, 60))
	}
	return out
}

// TestZ2 has lists with spare room behind them. It is not changed, and nothing hangs on it; answers share memory neither
// with it, nor among themselves, nor with another call's.
func TestZ2(t *testing.T) {
	for _, plain := range lists() {
		l := roomy(plain)
		before := spread(l)
		want, wantCame := right(t, 3, plain)
		w, came := right(t, 3, l)
		if !same(w, want) || !slices.Equal(came, wantCame) {
			t.Errorf("%+v: %+v, %v come, not %+v, %v", l, w, came, want, wantCame)
		}
		if spread(l) != before {
			t.Errorf("what is handed in is changed: %+v", l)
		}
		checkApart(t, l, w, came, want, wantCame)
	}
}

// TestZ2Spoilt changes what was handed in, as soon as the call has answered: the answer stays. It changes an answer too:
// the next one stays as it was.
func TestZ2Spoilt(t *testing.T) {
	for _, plain := range lists() {
		l := roomy(plain)
		w, came := right(t, 3, l)
		before := told(w) + told(came)
		for i := range l {
			l[i].Update.Seen[0], l[i].Update.Seen[1] = 88, 88
			l[i] = api.Do{Kind: 88}
		}
		if told(w)+told(came) != before {
			t.Errorf("%s becomes %+v, %v", before, w, came)
		}
		for i := range came {
			came[i] = 88
		}
		for who := range w.Nodes {
			w.Nodes[who].State.Clock[0], w.Nodes[who].Known[0][0], w.Way[who] = 88, 88, nil
		}
		if w, came := right(t, 3, plain); told(w)+told(came) != before {
			t.Errorf("%s becomes %+v, %v", before, w, came)
		}
	}
}

// TestZ3 has nil, and lists without entries.
func TestZ3(t *testing.T) {
	bare, full := put(0, 1, 1), put(0, 1, 1)
	full.Update.Seen = api.Clock{}
	want, _ := right(t, 2, list(bare))
	if got, _ := right(t, 2, list(full)); !same(got, want) {
		t.Errorf("%+v comes, not %+v", got, want)
	}
	for n := range most + 2 {
		w, came, err := Play(n, nil)
		other, otherCame, otherErr := Play(n, []api.Do{})
		if !same(w, other) || len(came)+len(otherCame) > 0 || err != otherErr {
			t.Errorf("%d nodes: %+v, %v, %v and %+v, %v, %v come", n, w, came, err, other, otherCame, otherErr)
		}
	}
}

// TestZ1 has anything in each field: each call answers, the same each time.
func TestZ1(t *testing.T) {
	edges := []int{math.MinInt, math.MinInt + 1, -2, -1, 0, 1, 2, 3, 4, 5, 6, 7, 15, 16, 300, 1000, 1001, math.MaxInt - 1, math.MaxInt}
	pick := picker(9)
	number := func() int { return edges[pick(len(edges))] }
	for range 400 {
		l := things(pick, 3, 30)
		for range 10 {
			do := &l[pick(len(l))]
			for _, field := range []*int{&do.Kind, &do.N, &do.To, &do.Update.Author, &do.Update.Kind, &do.Update.Key, &do.Update.Item} {
				if pick(4) == 0 {
					*field = number()
				}
			}
			for range pick(9) {
				do.Update.Seen = append(do.Update.Seen, number())
			}
		}
		n := 1 + pick(most)
		w, came := right(t, n, l)
		again, cameAgain := right(t, n, l)
		if !same(w, again) || !slices.Equal(came, cameAgain) {
			t.Fatalf("Play(%d, %+v): %+v, %v and %+v, %v come", n, l, w, came, again, cameAgain)
		}
		checkAgree(t, w)
	}
}
