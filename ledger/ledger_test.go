package ledger_test

import (
	"fmt"
	"math"
	"slices"
	"strings"
	"testing"

	"augury/api"
	"augury/ledger"
)

// P14.1: N1, Part, by a field that stands first, last, and alone, and by none.
func TestPart(t *testing.T) {
	const items = "seq a or b x then not c n then d y? then e z+ within 5"
	for i, c := range []struct {
		by, event string
		want      api.Val
		is        bool
	}{
		// Without By there is one part, of a zero Val.
		{"", "a1.7.8", api.Val{}, true},
		{"", "a1", api.Val{}, true},
		{"", "c1.7", api.Val{}, true},
		{"", "d1", api.Val{}, true},
		{"", "e1.9", api.Val{}, true},
		// The field's place is that of the schema of the event's name.
		{" by id", "a1.7.8", val("7"), true},
		{" by id", "b1.7.8", val("8"), true},
		{" by id", "c1.7.8", val("7"), true},
		{" by v", "a1.7.8", val("8"), true},
		{" by v", "b1.7.8", val("7"), true},
		// Whatever the Val is.
		{" by id", "a1.'u.8", val("'u"), true},
		{" by id", "a1.'", val("'"), true},
		{" by id", "b1.7.T", val("T"), true},
		{" by id", "a1.F", val("F"), true},
		{" by id", "a1.0.1", val("0"), true},
		{" by id", "c1.-5", val("-5"), true},
		// There is no Val at By's place.
		{" by id", "a1", api.Val{}, false},
		{" by id", "b1.7", api.Val{}, false},
		{" by id", "c1", api.Val{}, false},
		{" by v", "a1.7", api.Val{}, false},
		{" by v", "b1", api.Val{}, false},
		// The schema has no such field, or there is no schema.
		{" by v", "c1.7.8", api.Val{}, false},
		{" by id", "d1.7.8", api.Val{}, false},
		{" by id", "e1.7.8", api.Val{}, false},
		{" by w", "a1.7.8", api.Val{}, false},
		{" by a", "a1.7.8", api.Val{}, false},
		// The query does not look at it.
		{"", "f1.7.8", api.Val{}, false},
		{" by id", "f1.7.8", api.Val{}, false},
		{"", "x1", api.Val{}, false},
	} {
		if v, is := ledger.Part(world(), parsed(t, items+c.by), one(c.event)); v != c.want || is != c.is {
			t.Errorf("%d: %v %v", i, v, is)
		}
	}
}

// P14.1: N1, Part, of a Name that the query does not look at, though it has a schema and the Val.
func TestPartOfOther(t *testing.T) {
	for _, by := range []string{"", " by id"} {
		q := parsed(t, "seq a x within 5"+by)
		for _, s := range []string{"b1.7.8", "c1.7", "d1", "e1"} {
			if v, is := ledger.Part(world(), q, one(s)); is || v != (api.Val{}) {
				t.Errorf("%q %s: %v %v", by, s, v, is)
			}
		}
	}
}

// P14.1: N1, Part asks neither the query nor the event whether they are right; of schemas and fields the first of a name counts.
func TestPartAnyhow(t *testing.T) {
	wild := api.Query{Items: []api.Item{{}, {Names: []string{"", "A", "a", "a"}}}, By: "\xff"}
	schemas := []api.Schema{
		{Name: "A", Fields: []api.Field{{Name: "x"}, {Name: "\xff", Kind: 9}, {Name: "\xff", Kind: 1}}},
		{Name: "A", Fields: []api.Field{{Name: "\xff", Kind: 1}}},
		{Name: "", Fields: []api.Field{{Name: "\xff"}}},
		{Name: "a", Fields: []api.Field{{Name: "x"}}},
		{Name: "a", Fields: []api.Field{{Name: "\xff"}}},
	}
	odd := []api.Val{{Kind: -1, N: math.MinInt64, S: "odd"}, {Kind: 99, N: 5, S: "\xff"}, {}}
	for i, c := range []struct {
		name string
		vals []api.Val
		want api.Val
		is   bool
	}{
		{"A", odd, odd[1], true},
		{"A", odd[:1], api.Val{}, false},
		{"", odd, odd[0], true},
		{"", nil, api.Val{}, false},
		{"", odd[2:], api.Val{}, true},
		{"a", odd, api.Val{}, false},
		{"b", odd, api.Val{}, false},
	} {
		if v, is := ledger.Part(schemas, wild, api.Event{Ts: -9, Seq: -9, Depth: 99, Name: c.name, Vals: c.vals}); v != c.want || is != c.is {
			t.Errorf("%d: %v %v", i, v, is)
		}
	}
	for _, none := range [][]api.Schema{nil, {}, {{}}} {
		if v, is := ledger.Part(none, wild, api.Event{Name: "A", Vals: odd}); is || v != (api.Val{}) {
			t.Errorf("%v: %v %v", none, v, is)
		}
		wild := wild
		wild.By = ""
		if v, is := ledger.Part(none, wild, api.Event{Name: "A", Vals: odd}); !is || v != (api.Val{}) {
			t.Errorf("%v: %v %v", none, v, is)
		}
	}
	if v, is := ledger.Part(schemas, api.Query{}, api.Event{}); is || v != (api.Val{}) {
		t.Error(v, is)
	}
}

// P14.1: N1, Part of thrown queries and events, against the sketch.
func TestThrownParts(t *testing.T) {
	r := dice(141)
	many := map[bool]int{}
	for range 20000 {
		q, e, l := r.query(4), r.event(5), world()
		if r.rarely(12) {
			l = l[r.below(3):]
		}
		v, is := ledger.Part(l, q, e)
		if want, wantIs := sketchPart(l, q, e); v != want || is != wantIs {
			t.Fatalf("%v %v: %v %v", q, e, v, is)
		}
		many[is]++
	}
	if min(many[true], many[false]) < 3000 {
		t.Error("too few", many)
	}
}

// rising are matches, each ahead of all behind it, but those with a `=` between: these are alike.
const rising = "-5:b9; 3 = 3: = 3:// = 3:///; " +
	// An event that is lacking is ahead, in the first row, and in later ones.
	"3://c1 = 3://c1/; 3://c1/d1; 3:/b1 = 3:/b1/; 3:/b1/c1; 3:/b1 b2; 3:/b2; " +
	// Of events the Ts says it, then the Depth, then the Seq; neither the name nor the values.
	"3:a1 = 3:b1 = 3:a1.7 = 3:a1.9 = 3:a1.7/ = 3:c1.T//; 3:a1/b5; 3:a1/b6; " +
	// The first event in which they are unlike says it, whatever is behind it.
	"3:a1 a2/b9; 3:a1 a2 a3; 3:a1 a3; 3:a1#1/b0 = 3:z1#1.'u/z0/; 3:a1#1 a2; 3:a1^1 = 3:b1^1.4; 3:a1^1#1; 3:a1^2; 3:a2; 3:a2/b1/c1; 3:a2/b1/c2; 3:a2 a3; " +
	"4; 4://c0; 4:a0/b9 b9/c9; 4:a0/b9 b9/c9 c9; 5; 6:a1; 7"

// P14.1: N1, Less, of each match and each other one, and itself.
func TestLess(t *testing.T) {
	var l []api.Match
	var ranks []int
	for rank, group := range strings.Split(rising, "; ") {
		for _, s := range strings.Split(group, " = ") {
			l, ranks = append(l, match(s)), append(ranks, rank)
		}
	}
	for i, a := range l {
		for j, b := range l {
			if got, want := ledger.Less(a, b), ranks[i] < ranks[j]; got != want {
				t.Errorf("%s, %s: %v", told(l[i:i+1]), told(l[j:j+1]), got)
			}
			if got, want := sketchLess(a, b), ranks[i] < ranks[j]; got != want {
				t.Errorf("the sketch of %s, %s: %v", told(l[i:i+1]), told(l[j:j+1]), got)
			}
		}
	}
}

// P14.1: N1, Less, of numbers and rows of anything.
func TestLessAnyhow(t *testing.T) {
	low, high := api.Event{Ts: math.MinInt64, Depth: math.MinInt, Seq: math.MinInt64}, api.Event{Ts: math.MaxInt64, Depth: math.MaxInt, Seq: math.MaxInt64}
	rows := func(l ...[]api.Event) [][]api.Event { return l }
	for i, c := range []struct {
		a, b api.Match
		want bool
	}{
		{api.Match{Done: math.MinInt64}, api.Match{Done: math.MaxInt64}, true},
		{api.Match{Done: math.MinInt64, Bound: rows([]api.Event{high})}, api.Match{Done: math.MinInt64 + 1}, true},
		{api.Match{Done: math.MaxInt64 - 1, Bound: rows([]api.Event{high})}, api.Match{Done: math.MaxInt64}, true},
		{api.Match{Done: -1}, api.Match{}, true},
		{api.Match{Bound: rows([]api.Event{low})}, api.Match{Bound: rows([]api.Event{high})}, true},
		{api.Match{Bound: rows([]api.Event{{Ts: math.MaxInt64 - 1}})}, api.Match{Bound: rows([]api.Event{{Ts: math.MaxInt64}})}, true},
		{api.Match{Bound: rows([]api.Event{{Seq: -1}})}, api.Match{Bound: rows([]api.Event{{}})}, true},
		{api.Match{Bound: rows([]api.Event{{Depth: -1, Seq: 9}})}, api.Match{Bound: rows([]api.Event{{}})}, true},
		// A row that is lacking is one without events.
		{api.Match{}, api.Match{Bound: make([][]api.Event, 9)}, false},
		{api.Match{Bound: rows()}, api.Match{Bound: rows(nil, []api.Event{})}, false},
		{api.Match{}, api.Match{Bound: rows([]api.Event{{}})}, true},
		{api.Match{Bound: rows(nil, []api.Event{low})}, api.Match{Bound: rows([]api.Event{high})}, true},
	} {
		if got := ledger.Less(c.a, c.b); got != c.want {
			t.Errorf("%d: %v", i, got)
		}
		if ledger.Less(c.b, c.a) || ledger.Less(c.a, c.a) || ledger.Less(c.b, c.b) {
			t.Errorf("%d: the other way", i)
		}
	}
}

// P14.1: N1, Less of thrown matches, against the sketch; it is an order.
func TestThrownLess(t *testing.T) {
	r := dice(142)
	less, alike := 0, 0
	for range 30000 {
		a, b, c := r.match(), r.match(), r.match()
		if r.rarely(3) {
			b = match(told([]api.Match{a}))
			for i := range b.Bound {
				for j := range b.Bound[i] {
					if r.rarely(3) {
						b.Bound[i][j].Seq++
					}
				}
			}
		}
		got, back := ledger.Less(a, b), ledger.Less(b, a)
		if got != sketchLess(a, b) || back != sketchLess(b, a) || got && back || ledger.Less(a, a) {
			t.Fatalf("%v %v: %v %v", a, b, got, back)
		}
		if got && ledger.Less(b, c) && !ledger.Less(a, c) || !got && !ledger.Less(b, c) && ledger.Less(a, c) {
			t.Fatalf("%v %v %v", a, b, c)
		}
		if got {
			less++
		} else if !back {
			alike++
		}
	}
	if min(less, alike) < 2000 {
		t.Error("too few", less, alike)
	}
}

// P14.1: N1, Minus, of none, of all, of alike ones more than once, in order.
func TestMinus(t *testing.T) {
	const some = "5:a3, 1:a1, 9:a3/b4, 1:a1, 1:a1/b1, 4, 1:a1.7, 0:a9"
	for i, c := range []struct{ a, b, want string }{
		{"", "", ""},
		{"", some, ""},
		// Of none: all, as they stand, each as often.
		{some, "", some},
		{some, "2:a1, 5:a3#1, 5:a3/b1, 4:a1, 9:a3, 9:/b4, 9:a3/b4/c4, 1, 3:a3/b4", some},
		// Of all, in whichever order, and more often.
		{some, some, ""},
		{some, "0:a9, 1:a1, 4, 1:a1/b1, 9:a3/b4, 5:a3, 0:a9, 4", ""},
		// Alike ones go together, whatever they are called, and however often they are there.
		{some, "1:a1", "5:a3, 9:a3/b4, 1:a1/b1, 4, 0:a9"},
		{some, "1:b1.3.4//, 1:b1.3.4//, 1:c1", "5:a3, 9:a3/b4, 1:a1/b1, 4, 0:a9"},
		{some, "4:///, 1:a1/z1.T/", "5:a3, 1:a1, 9:a3/b4, 1:a1, 1:a1.7, 0:a9"},
		{"1:a1, 1:a1, 1:a1", "1:a1", ""},
		{"1:a1, 1:a1, 1:a1", "1:a2", "1:a1, 1:a1, 1:a1"},
		// What is left stands as it stood, not by what is ahead; of alike ones each is as it was.
		{"3:a3.1, 2:a2, 3:a3.2, 1:a1, 3:a3.1", "2:a2", "3:a3.1, 3:a3.2, 1:a1, 3:a3.1"},
		{"9, 8, 7, 6, 5, 4, 3, 2, 1", "2, 8, 4, 6, 0, 10", "9, 7, 5, 3, 1"},
	} {
		if got := told(ledger.Minus(matches(c.a), matches(c.b))); got != c.want {
			t.Errorf("%d: %s", i, got)
		}
	}
	for _, a := range [][]api.Match{nil, {}} {
		for _, b := range [][]api.Match{nil, {}, matches(some)} {
			if got := ledger.Minus(a, b); len(got) != 0 {
				t.Error(got)
			}
		}
	}
}

// P14.1: N1, Minus of thrown matches, against the sketch.
func TestThrownMinus(t *testing.T) {
	r := dice(143)
	left, gone := 0, 0
	for range 3000 {
		var a, b []api.Match
		for range r.below(12) {
			a = append(a, r.match())
		}
		for range r.below(12) {
			b = append(b, r.match())
		}
		if len(a) > 0 {
			b = append(b, a[r.below(len(a))])
			a = append(a, a[r.below(len(a))])
		}
		got := ledger.Minus(a, b)
		if want := sketchMinus(a, b); !slices.EqualFunc(got, want, func(x, y api.Match) bool { return fmt.Sprint(x) == fmt.Sprint(y) }) {
			t.Fatalf("%s less %s: %s is not %s", told(a), told(b), told(got), told(want))
		}
		left, gone = left+len(got), gone+len(a)-len(got)
	}
	if min(left, gone) < 2000 {
		t.Error("too few", left, gone)
	}
}
