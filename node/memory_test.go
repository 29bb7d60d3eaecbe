package node

import (
	"fmt"
	"math"
	"reflect"
	"strings"
	"testing"

	"prunewell/api"
)

// spread tells x with all the spare room of its lists.
func spread(x any) string {
	var out strings.Builder
	var tell func(v reflect.Value)
	tell = func(v reflect.Value) {
		switch v.Kind() {
		case reflect.Slice:
			fmt.Fprintf(&out, "%d[", v.Len())
			for i := range v.Cap() {
				tell(v.Slice(0, v.Cap()).Index(i))
			}
			out.WriteString("]")
		case reflect.Struct:
			for i := range v.NumField() {
				tell(v.Field(i))
			}
		default:
			fmt.Fprint(&out, v.Interface(), " ")
		}
	}
	tell(reflect.ValueOf(x))
	return out.String()
}

// span is the memory of a list, with its spare room.
type span struct{ from, to uintptr }

// spans are the memory of all lists in x.
func spans(x any) []span {
	var out []span
	var find func(v reflect.Value)
	find = func(v reflect.Value) {
		switch v.Kind() {
		case reflect.Slice:
			if v.Cap() > 0 {
				out = append(out, span{v.Pointer(), v.Pointer() + uintptr(v.Cap())*v.Type().Elem().Size()})
			}
			for i := range v.Len() {
				find(v.Index(i))
			}
		case reflect.Struct:
			for i := range v.NumField() {
				find(v.Field(i))
			}
		}
	}
	find(reflect.ValueOf(x))
	return out
}

// checkApart tells if two lists of an answer share memory, or one of it and one of what was handed in.
func checkApart(t *testing.T, name string, answer any, args ...any) {
	t.Helper()
	own := spans(answer)
	rest := own
	for _, x := range args {
		rest = append(rest[:len(rest):len(rest)], spans(x)...)
	}
	for i, a := range own {
		for k, b := range rest {
			if i != k && a.from < b.to && b.from < a.to {
				t.Errorf("%s: two lists share memory", name)
				return
			}
		}
	}
}

// roomyClock has spare room that goes on as if the clock did.
func roomyClock(c api.Clock) api.Clock {
	out := append(make(api.Clock, 0, len(c)+2), c...)
	copy(out[len(c):cap(out)], api.Clock{1, 2})
	return out
}

func roomyLog(l []api.Update) []api.Update {
	out := make([]api.Update, 0, len(l)+2)
	for _, u := range append(l[:len(l):len(l)], by(1, api.Put, 1, 1, 2, 2, 1), put(7, 7)) {
		u.Seen = roomyClock(u.Seen)
		out = append(out, u)
	}
	return out[:len(l)]
}

func roomyState(s api.State) api.State {
	lives := append(append([]api.Live(nil), s.Lives...), register(9, 9, 0, 1), register(7, 7, 7, 7))
	tallies := append(append([]api.Tally(nil), s.Tallies...), api.Tally{Key: 9, Author: 0, Sum: 1}, api.Tally{Key: 77})
	return api.State{Clock: roomyClock(s.Clock), Lives: lives[:len(s.Lives)], Tallies: tallies[:len(s.Tallies)]}
}

// roomy is d with spare room behind each list.
func roomy(d api.Node) api.Node {
	known := make([]api.Clock, 0, len(d.Known)+2)
	for _, c := range append(d.Known[:len(d.Known):len(d.Known)], api.Clock{0, 0, 0}, api.Clock{7}) {
		known = append(known, roomyClock(c))
	}
	return api.Node{Self: d.Self, State: roomyState(d.State), Base: roomyClock(d.Base), Log: roomyLog(d.Log), Known: known[:len(d.Known)]}
}

func roomyParcel(p api.Parcel) api.Parcel {
	return api.Parcel{Whole: p.Whole, State: roomyState(p.State), Updates: roomyLog(p.Updates), Clock: roomyClock(p.Clock)}
}

// call is one of the package's functions, that answers a node or a parcel, with what is handed in.
type call struct {
	name string
	args []any
	do   func() (any, api.Errno)
}

// calls hand in all that they are given, each in a call of its own.
func calls(d api.Node, u api.Update, who int, p api.Parcel) []call {
	return []call{
		{"Issue", []any{d, u}, func() (any, api.Errno) { return back(Issue(d, u)) }},
		{"Send", []any{d}, func() (any, api.Errno) { return back(Send(d, who)) }},
		{"Take", []any{d, p}, func() (any, api.Errno) { return back(Take(d, who, p)) }},
		{"Prune", []any{d}, func() (any, api.Errno) { return back(Prune(d)) }},
	}
}

func back[T any](x T, err api.Errno) (any, api.Errno) { return x, err }

func isNothing(x any) bool { return same(x, api.Node{}) || same(x, api.Parcel{}) }

// parcels are some that middle() takes, from node 2.
func parcels() []api.Parcel {
	more := api.State{Clock: api.Clock{3, 1, 3}, Lives: []api.Live{register(1, 9, 2, 3)}, Tallies: []api.Tally{{Key: 4, Author: 2, Sum: 5}}}
	next := list(by(0, api.Add, 3, 1, 2, 1, 1), by(2, api.Put, 2, 4, 3, 1, 1))
	return []api.Parcel{
		{Clock: api.Clock{0, 0, 0}},
		{Clock: api.Clock{1, 1, 1}, Updates: middle().Log},
		{Clock: api.Clock{3, 1, 2}, Updates: next},
		{Clock: api.Clock{3, 1, 3}, Whole: true, State: more},
		{Clock: api.Clock{4, 1, 3}, Whole: true, State: more, Updates: list(by(0, api.Clear, 1, 0, 3, 1, 3))},
		{Clock: api.Clock{2, 2, 1}, Whole: true, State: middle().State},
	}
}

// knowing are middle(), and some of its kind that send other things, and prune more.
func knowing() []api.Node {
	less, all, some := middle(), middle(), middle()
	less.Known[2] = api.Clock{0, 0, 0}
	all.Known[0], all.Known[2] = api.Clock{2, 2, 1}, api.Clock{2, 2, 1}
	some.Known[0], some.Known[2] = api.Clock{2, 1, 1}, api.Clock{2, 0, 1}
	return []api.Node{middle(), less, all, some}
}

// TestZ2 has nodes and parcels with spare room behind each list. It is not changed, and nothing hangs on it; answers
// share memory neither with it nor among themselves.
func TestZ2(t *testing.T) {
	u := by(2, api.Put, 1, 3, 9, 9)
	for _, plain := range knowing() {
		for _, plainParcel := range parcels() {
			d, p := roomy(plain), roomyParcel(plainParcel)
			own := u
			own.Seen = roomyClock(u.Seen)
			before := spread(d) + spread(own) + spread(p)
			wants := calls(plain, u, 2, plainParcel)
			for i, x := range calls(d, own, 2, p) {
				want, wantErr := wants[i].do()
				got, err := x.do()
				if err != api.OK || err != wantErr || !same(got, want) {
					t.Errorf("%s(%v): %v, %v comes, not %v", x.name, x.args, got, err, want)
				}
				checkApart(t, x.name, got, x.args...)
			}
			if err := Wrong(d); err != api.OK {
				t.Errorf("Wrong(%v) = %v", d, err)
			}
			if spread(d)+spread(own)+spread(p) != before {
				t.Errorf("what is handed in is changed: %v, %v, %v", d, own, p)
			}
		}
	}
	got, _ := Start(2, 6)
	checkApart(t, "Start", got)
}

// TestZ2Spoilt changes what was handed in, as soon as the call has answered: the answer stays.
func TestZ2Spoilt(t *testing.T) {
	for i := range calls(middle(), put(1, 3), 2, parcels()[4]) {
		d, p := roomy(knowing()[3]), roomyParcel(parcels()[4])
		got, err := calls(d, put(1, 3), 2, p)[i].do()
		before := told(got)
		for _, c := range append(d.Known, d.Base, d.State.Clock, p.Clock, p.State.Clock, d.Log[0].Seen, d.Log[2].Seen, p.Updates[0].Seen) {
			c[0], c[1] = 88, 88
		}
		for k := range d.Log {
			d.Log[k].Item = 88
		}
		d.State.Lives[0].Key, d.State.Tallies[0].Key, d.Known[0], d.Known[1] = 88, 88, nil, nil
		p.State.Lives[0].Key, p.State.Tallies[0].Key, p.Updates[0].Key = 88, 88, 88
		if err != api.OK || told(got) != before {
			t.Errorf("%v becomes %v, %v", before, told(got), err)
		}
	}
}

// TestZ3 has nil, and lists without entries.
func TestZ3(t *testing.T) {
	full := start(t, 1, 2)
	full.State.Lives, full.State.Tallies, full.Log = []api.Live{}, []api.Tally{}, []api.Update{}
	bare := start(t, 1, 2)
	bare.State.Lives, bare.State.Tallies, bare.Log = nil, nil, nil
	c := api.Clock{0, 0}
	for i, p := range []api.Parcel{{Clock: c}, {Clock: c, Updates: []api.Update{}}, {Clock: c, Whole: true, State: api.State{Clock: c}}, {Clock: c, Whole: true, State: bare.State}, {Clock: c, Whole: true, State: full.State}} {
		wants := calls(bare, api.Update{Kind: api.Clear}, 0, p)
		for k, x := range calls(full, api.Update{Kind: api.Clear, Seen: api.Clock{}}, 0, p) {
			want, wantErr := wants[k].do()
			if got, err := x.do(); err != api.OK || wantErr != api.OK || !same(got, want) {
				t.Errorf("%d, %s: %v, %v comes, not %v, %v", i, x.name, got, err, want, wantErr)
			}
		}
	}
	for _, none := range []api.Clock{nil, {}} {
		if err := Wrong(api.Node{State: api.State{Clock: none}, Base: none, Known: []api.Clock{}}); err != api.ErrMany {
			t.Errorf("without authors: %v", err)
		}
		got, err := Take(full, 0, api.Parcel{Clock: none})
		checkNoNode(t, "without a clock", got, err, api.ErrMany)
	}
}

// harm changes some number or list somewhere in x, which is a pointer.
func harm(pick func(below int) int, x any) {
	var spots []reflect.Value
	var find func(v reflect.Value)
	find = func(v reflect.Value) {
		switch v.Kind() {
		case reflect.Slice:
			spots = append(spots, v)
			for i := range v.Len() {
				find(v.Index(i))
			}
		case reflect.Struct:
			for i := range v.NumField() {
				find(v.Field(i))
			}
		case reflect.Int, reflect.Bool:
			spots = append(spots, v)
		}
	}
	find(reflect.ValueOf(x).Elem())
	v := spots[pick(len(spots))]
	switch {
	case v.Kind() == reflect.Int:
		edges := []int{math.MinInt, -1, 0, 1, 2, 3, int(v.Int()) + 1, int(v.Int()) - 1, last, last + 1, math.MaxInt}
		v.SetInt(int64(edges[pick(len(edges))]))
	case v.Kind() == reflect.Bool:
		v.SetBool(!v.Bool())
	case v.Len() > 0 && pick(3) > 0:
		v.Set(v.Slice(0, v.Len()-1))
	case v.Len() > 0:
		v.Set(reflect.Append(v, v.Index(0)))
	default:
		v.Set(reflect.Zero(v.Type()))
	}
}

// TestZ1 has nodes and parcels with harm done to them: each call answers, the same each time, nothing beside an error,
// and else a right node; and what is handed in is not changed.
func TestZ1(t *testing.T) {
	pick := picker(4)
	errs := map[api.Errno]int{}
	for range 6000 {
		d, p, u := knowing()[pick(4)], parcels()[pick(6)], by(0, 1+pick(5), pick(3), 0, 0, 0, 0)
		for range pick(3) {
			harm(pick, &d)
		}
		for range pick(3) {
			harm(pick, &p)
		}
		for range pick(2) {
			harm(pick, &u)
		}
		who := []int{0, 0, 2, 2, 1, -1, 3, math.MinInt, math.MaxInt}[pick(9)]
		before := spread(d) + spread(p) + spread(u)
		for _, x := range calls(d, u, who, p) {
			got, err := x.do()
			again, errAgain := x.do()
			if err != errAgain || !same(got, again) || err != api.OK && !isNothing(got) {
				t.Fatalf("%s(%v): %v, %v and %v, %v come", x.name, x.args, got, err, again, errAgain)
			}
			if wrong := Wrong(d); wrong != api.OK && err != wrong {
				t.Fatalf("%s(%v): %v comes, not %v", x.name, x.args, err, wrong)
			}
			if e, ok := got.(api.Node); ok && err == api.OK && Wrong(e) != api.OK {
				t.Fatalf("%s(%v): %v comes, and is wrong", x.name, x.args, e)
			}
			errs[err]++
		}
		if spread(d)+spread(p)+spread(u) != before {
			t.Fatalf("what is handed in is changed: %v, %v, %v", d, p, u)
		}
	}
	for _, err := range []api.Errno{api.OK, api.ErrKind, api.ErrForm, api.ErrRange, api.ErrMany, api.ErrNone, api.ErrFit, api.ErrEarly} {
		if errs[err] < 20 {
			t.Errorf("%v came %d times", err, errs[err])
		}
	}
}
