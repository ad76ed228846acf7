package ledger_test

import (
	"fmt"
	"math"
	"reflect"
	"slices"
	"strings"
	"sync"
	"testing"

	"augury/api"
	"augury/ledger"
	"augury/tree"
)

// wildQueries are of anything, some right.
func wildQueries(t *testing.T) []api.Query {
	l := []api.Query{{}, {Items: []api.Item{}}, {Items: []api.Item{{}}}, {Items: make([]api.Item, 9)}, {Preds: make([]api.Pred, 9)}}
	for _, n := range []int{math.MinInt, -1, 0, 1, 2, 3, 4, math.MaxInt} {
		for _, names := range [][]string{nil, {}, {""}, {"a"}, {"\xff", "a"}, {"x", "x", "x", "x"}} {
			for _, v := range []string{"", "x", "id", "\xff", "seq"} {
				l = append(l, api.Query{Items: []api.Item{{Not: n == 0, Names: names, Var: v, Mode: n}, {Not: n == 1, Names: names, Var: v, Mode: n}}, Preds: []api.Pred{{Cmp: n}}, Within: int64(n), By: v, Pick: n})
			}
		}
	}
	for _, s := range []string{"a x within 0", "a x+ within 1099511627776", "a x then not a n within 0 by id pick next", "a x then a y? then not b n where sum(y.v) + 1 > count(y) and 'a' != y.v within 3 by v pick strict"} {
		l = append(l, parsed(t, "seq "+s))
	}
	return l
}

// wildEvents are of anything.
func wildEvents() []api.Event {
	l := []api.Event{{}, {Name: "a"}, {Name: "a", Ts: most}, {Name: "b", Ts: 1, Vals: make([]api.Val, 8)}, {Name: "a", Ts: 1, Vals: slices.Repeat([]api.Val{{Kind: api.Int}}, 2)}}
	for _, n := range []int64{math.MinInt64, -1, 0, 1, most, most + 1, math.MaxInt64} {
		for _, s := range []string{"", "a", "\xff", strings.Repeat("a", 99)} {
			l = append(l, api.Event{Ts: n, Depth: int(n), Seq: n, Name: s, Vals: []api.Val{{Kind: int(n), N: n, S: s}}}, api.Event{Ts: n, Name: s, Vals: []api.Val{{Kind: api.Int, N: n}, {Kind: api.Text, S: s}}})
		}
	}
	return l
}

// wildMatches are of anything.
func wildMatches() []api.Match {
	l := []api.Match{{}, {Bound: [][]api.Event{}}, {Bound: [][]api.Event{nil}}, {Bound: [][]api.Event{{}}}, {Bound: [][]api.Event{{{}}}}, {Bound: [][]api.Event{nil, {}, nil}}}
	for _, n := range []int64{math.MinInt64, -1, 1, most + 1, math.MaxInt64} {
		l = append(l, api.Match{Done: n})
		for _, e := range wildEvents() {
			l = append(l, api.Match{Done: n, Bound: [][]api.Event{{e}}}, api.Match{Done: n, Bound: [][]api.Event{nil, {e, e}, {}}})
		}
	}
	return l
}

// P1, P2: calls end, and none panics, at all arguments; what they answer is what the document's words say.
func TestAllArguments(t *testing.T) {
	l, m := wildEvents(), wildMatches()
	schemas := [][]api.Schema{nil, {}, {{}}, make([]api.Schema, 99), world(), {{Name: "a", Fields: slices.Repeat([]api.Field{{Name: "id", Kind: -1}}, 9)}}}
	for i, q := range wildQueries(t) {
		for j, e := range l {
			s := schemas[(i+j)%len(schemas)]
			v, is := ledger.Part(s, q, e)
			if want, wantIs := sketchPart(s, q, e); v != want || is != wantIs || !is && v != (api.Val{}) {
				t.Errorf("%v %v: %v %v", q, e, v, is)
			}
			book(t, s, q, l[j:], l[len(l)-1-j].Ts)
		}
		if t.Failed() {
			t.FailNow()
		}
	}
	for i, a := range m {
		for _, b := range m {
			if got := ledger.Less(a, b); got != sketchLess(a, b) {
				t.Fatalf("%v %v: %v", a, b, got)
			}
		}
		if got, want := ledger.Minus(m, m[:i]), sketchMinus(m, m[:i]); fmt.Sprint(got) != fmt.Sprint(want) {
			t.Fatalf("%d: %v", i, got)
		}
	}
}

// P1: no events, events without values, nil rows, no schemas, names that are empty.
func TestNothing(t *testing.T) {
	for i, q := range []api.Query{{}, {Items: []api.Item{}}, {Items: []api.Item{{Names: []string{""}, Var: "x", Mode: api.One}}, Pick: api.Any}} {
		for _, l := range [][]api.Event{nil, {}, {{}}, events("a1 b2")} {
			if got, since := ledger.Book(nil, q, l, 9); len(got) > 0 || since != -1 {
				t.Errorf("%d: %s since %d", i, told(got), since)
			}
		}
		if v, is := ledger.Part(nil, q, api.Event{}); v != (api.Val{}) || is != (i == 2) {
			t.Errorf("%d: %v %v", i, v, is)
		}
	}
	for _, by := range []string{"", " by id"} {
		q := parsed(t, "seq a x then not c n within 2"+by)
		for _, schemas := range [][]api.Schema{nil, {}, {{}}, world()} {
			for _, l := range [][]api.Event{nil, {}, {{}}, {{Ts: 1}, {Ts: 2, Vals: []api.Val{{}}}}, {{Name: "a", Ts: -1}}} {
				if got, since := book(t, schemas, q, l, 9); len(got) > 0 || since != -1 {
					t.Errorf("%q: %v: %s since %d", by, l, told(got), since)
				}
			}
			// Events without values are events; of no part, if there is a field that parts.
			want := "3:a1/"
			if by != "" {
				want = ""
			}
			for _, vals := range [][]api.Val{nil, {}} {
				if got, since := book(t, schemas, q, []api.Event{{Ts: 1, Name: "a", Vals: vals}}, 9); told(got) != want || since != -1 {
					t.Errorf("%q: %s since %d", by, told(got), since)
				}
			}
		}
	}
}

// P1: whatever there is much of: events of one part, of as many parts, of none, that are over at once, and that wait.
func TestMuch(t *testing.T) {
	const many = 1 << 16
	var l []api.Event
	for n := range int64(many) {
		l = append(l, api.Event{Ts: many - n/2, Seq: n, Name: "a", Vals: []api.Val{{Kind: api.Int, N: n}, {Kind: api.Int, N: n % 16}}})
	}
	for text, want := range map[string]int{
		"a x within 9":                             many,
		"a x within 9 by id":                       many,
		"a x then not c n within 9 by id":          many,
		"a x then a y within 9 by id":              0,
		"a x then a y within 9 by v pick next":     many - 16,
		"a x then not a n within 7 by v":           many,
		"a x then not a n within 8 by v":           16,
		"b x within 9":                             0,
		"d or e x then not a n within 9":           0,
		"a x then a y where x.v = 4 within 0":      many / 16,
		"a x then b y? then not a n within 0 by w": 0,
	} {
		got, since := ledger.Book(world(), parsed(t, "seq "+text), l, 2*many)
		if len(got) != want || since != -1 {
			t.Errorf("%s: %d since %d", text, len(got), since)
		}
	}
	q := parsed(t, "seq a x+ then b y within 1099511627776 by id pick next")
	if got, since := ledger.Book(world(), q, l, 2*many); len(got) != 0 || since != many/2+33 {
		t.Error(len(got), since)
	}
	long := strings.Repeat("a", 1<<24)
	if v, is := ledger.Part(make([]api.Schema, 1<<20), q, api.Event{Name: long}); is || v != (api.Val{}) {
		t.Error(v, is)
	}
	if got, since := ledger.Book(make([]api.Schema, 99), q, []api.Event{{Name: long}, {Name: "a", Vals: make([]api.Val, 1<<20)}}, 9); len(got) > 0 || since != -1 {
		t.Error(len(got), since)
	}
}

// P1: rows of many matches, and matches of many rows, are compared in no time.
func TestMuchFound(t *testing.T) {
	const many = 1 << 16
	var a, b []api.Match
	for n := range int64(many) {
		bound := [][]api.Event{{{Ts: n, Name: "a"}}, nil, {{Ts: n}, {Ts: n * 7 % many}}}
		a = append(a, api.Match{Done: n % 5, Bound: bound})
		if n%2 == 0 {
			b = append(b, api.Match{Done: n % 5, Bound: bound[:3:3]}, api.Match{Done: 5 - n%5, Bound: bound})
		}
	}
	slices.Reverse(b)
	if got := ledger.Minus(a, b); len(got) != many/2 || got[0].Bound[0][0].Ts != 1 || got[many/2-1].Bound[0][0].Ts != many-1 {
		t.Error(len(got))
	}
	if got := ledger.Minus(b, b); len(got) != 0 {
		t.Error(len(got))
	}
	wide := api.Match{Bound: make([][]api.Event, 1<<20)}
	deep := api.Match{Bound: [][]api.Event{make([]api.Event, 1<<20)}}
	last := api.Match{Bound: append(make([][]api.Event, 1<<20), []api.Event{{}})}
	for i, c := range []struct {
		a, b api.Match
		want bool
	}{{wide, last, true}, {last, wide, false}, {last, deep, true}, {deep, last, false}, {wide, api.Match{}, false}, {api.Match{}, wide, false}, {deep, deep, false}} {
		if got := ledger.Less(c.a, c.b); got != c.want {
			t.Errorf("%d: %v", i, got)
		}
	}
}

// P1: an expression may be deeper than may be, and below itself: its query is not right.
func TestDeep(t *testing.T) {
	v := api.Expr{Kind: api.ExVal, Val: api.Val{Kind: api.Int, N: 1}}
	ring := api.Expr{Kind: api.ExSub, Kids: []api.Expr{v, v}}
	ring.Kids[1] = ring
	deep := v
	for range api.MaxDeep + 300 {
		deep = api.Expr{Kind: api.ExAdd, Kids: []api.Expr{deep, deep}}
	}
	for _, x := range []api.Expr{ring, deep} {
		q := parsed(t, "seq a x within 5 by id")
		q.Preds = []api.Pred{{Cmp: api.Eq, L: v, R: x}}
		if got, since := ledger.Book(world(), q, events("a1.7"), 9); len(got) > 0 || since != -1 {
			t.Error(told(got), since)
		}
		if v, is := ledger.Part(world(), q, one("a1.7")); !is || v != val("7") {
			t.Error(v, is)
		}
	}
}

// roomier is a list with spare room, that holds something.
func roomier[T any](l []T, spare T) []T { return append(slices.Clone(l), spare, spare)[:len(l)] }

// handed is what is handed in, with spare room in each list.
type handed struct {
	l      []api.Schema
	q      api.Query
	events []api.Event
	a, b   []api.Match
}

// roomyEvents are events with spare room.
func roomyEvents(l []api.Event) []api.Event {
	l = roomier(l, one("a1.7.7"))
	for i := range l {
		l[i].Vals = roomier(l[i].Vals, api.Val{Kind: api.Int, N: 77})
	}
	return l
}

// roomyMatches are matches with spare room.
func roomyMatches(l []api.Match) []api.Match {
	l = roomier(l, match("1:a1.7"))
	for i := range l {
		l[i].Bound = roomier(l[i].Bound, events("c9.9"))
		for j := range l[i].Bound {
			l[i].Bound[j] = roomyEvents(l[i].Bound[j])
		}
	}
	return l
}

func roomy(t *testing.T, pick string) handed {
	h := handed{
		l:      roomier(world(), api.Schema{Name: "spare"}),
		q:      parsed(t, "seq a or b x+ then not c n then b y? where x.v + (1 + 2) >= y.v - 1 within 5 by id pick "+pick),
		events: roomyEvents(events("b4.2.7 a3.7.2 a1.8.2 a1.7.2 a9 b4.2.7 c5.8 a0^3.8.1 d9 b99.1.1")),
		a:      roomyMatches(matches("5:a1.7/b2 b3/, 5:a1, 3:c3.'u, 9:///d1")),
		b:      roomyMatches(matches("3:c3, 9, 5:/a1, 5:b1.7")),
	}
	for i := range h.l {
		h.l[i].Fields = roomier(h.l[i].Fields, api.Field{Name: "spare", Kind: 1})
	}
	h.q.Items = roomier(h.q.Items, api.Item{Names: []string{"b"}, Var: "spare", Mode: api.One})
	for i := range h.q.Items {
		h.q.Items[i].Names = roomier(h.q.Items[i].Names, "c")
	}
	h.q.Preds = roomier(h.q.Preds, api.Pred{Cmp: 9})
	x := &h.q.Preds[0].L
	x.Kids = roomier(x.Kids, api.Expr{Kind: 9})
	return h
}

// rooms are all lists, with their spare room.
func (h handed) rooms() []any {
	x := h.q.Preds[0].L
	l := []any{h.l[:cap(h.l)], h.q.Items[:cap(h.q.Items)], h.q.Preds[:cap(h.q.Preds)], x.Kids[:cap(x.Kids)], h.a[:cap(h.a)], h.b[:cap(h.b)]}
	for _, s := range h.l {
		l = append(l, s.Fields[:cap(s.Fields)])
	}
	for _, it := range h.q.Items {
		l = append(l, it.Names[:cap(it.Names)])
	}
	rows := [][]api.Event{h.events}
	for _, m := range slices.Concat(h.a, h.b) {
		l = append(l, m.Bound[:cap(m.Bound)])
		rows = append(rows, m.Bound...)
	}
	for _, row := range rows {
		l = append(l, row[:cap(row)])
		for _, e := range row {
			l = append(l, e.Vals[:cap(e.Vals)])
		}
	}
	return l
}

// answers are all that the calls answer of what is handed in.
func (h handed) answers() string {
	var out []any
	for time := int64(-1); time < 12; time++ {
		m, since := ledger.Book(h.l, h.q, h.events, time)
		out = append(out, m, since)
	}
	for _, e := range h.events {
		v, is := ledger.Part(h.l, h.q, e)
		out = append(out, v, is)
	}
	for _, a := range h.a {
		for _, b := range h.b {
			out = append(out, ledger.Less(a, b), ledger.Less(b, a))
		}
	}
	return fmt.Sprint(append(out, ledger.Minus(h.a, h.b), ledger.Minus(h.b, h.a), ledger.Minus(h.a, nil))...)
}

// P3: what is handed in is not changed, nor its spare room; and not kept.
func TestHandedIn(t *testing.T) {
	for _, pick := range []string{"any", "next", "strict"} {
		h, want := roomy(t, pick), roomy(t, pick)
		first := h.answers()
		if !reflect.DeepEqual(h, want) || !reflect.DeepEqual(h.rooms(), want.rooms()) {
			t.Errorf("%v is not %v", h.rooms(), want.rooms())
		}
		if got := want.answers(); got != first {
			t.Errorf("%s is not %s", got, first)
		}
		// What is written to it behind the call is seen, and nothing of what it was.
		for _, c := range []struct {
			change func()
			want   string
		}{
			{func() { h.events, h.q.Items, h.q.Preds = h.events[1:4], h.q.Items[:1], nil }, "1:a1.8.2, 3:a1.7.2 a3.7.2, 3:a3.7.2"},
			{func() { h.events[1].Vals[0].N = 7 }, "1:a1.7.2, 1:a1.7.2 a1.7.2, 3:a1.7.2 a1.7.2 a3.7.2, 3:a1.7.2 a3.7.2, 3:a3.7.2"},
			{func() { h.events[0].Ts = 5 }, "1:a1.7.2, 1:a1.7.2 a1.7.2, 5:a1.7.2 a1.7.2 a5.7.2, 5:a1.7.2 a5.7.2, 5:a5.7.2"},
			{func() { h.q.Within = 3 }, "1:a1.7.2, 1:a1.7.2 a1.7.2, 5:a5.7.2"},
			{func() { h.q.Items[0].Names[0] = "c" }, ""},
			{func() { h.events[2].Name = "b" }, "1:b1.7.2"},
			{func() { h.l[1].Fields[1].Name = "w" }, ""},
		} {
			c.change()
			if got, since := book(t, h.l, h.q, h.events, 9); told(got) != c.want || since != -1 {
				t.Errorf("%s: %s is not %s", pick, told(got), c.want)
			}
		}
		if got := want.answers(); got != first {
			t.Errorf("%s is not %s", got, first)
		}
	}
}

// spoil writes to all that lies in matches, their spare room too.
func spoil(l []api.Match) {
	for _, m := range l {
		for _, row := range m.Bound {
			for _, e := range row {
				clear(e.Vals[:cap(e.Vals)])
			}
			clear(row[:cap(row)])
		}
		clear(m.Bound[:cap(m.Bound)])
	}
	clear(l[:cap(l)])
}

// P3: lists that come out are new memory, their spare room too, and what lies in them: they may be written to,
// and grow, without being seen in what was handed in, in one another, and in what another call answers.
func TestComesOut(t *testing.T) {
	for _, pick := range []string{"any", "next", "strict"} {
		h, want := roomy(t, pick), roomy(t, pick)
		for i, call := range []func() []api.Match{
			func() []api.Match { m, _ := ledger.Book(h.l, h.q, h.events, 9); return m },
			func() []api.Match { m, _ := ledger.Book(h.l, h.q, waves("9*a1.7.7 99*a2.7.7"), 9); return m },
			func() []api.Match { return ledger.Minus(h.a, h.b) },
			func() []api.Match { return ledger.Minus(h.a, nil) },
			func() []api.Match { return ledger.Minus(slices.Concat(h.a, h.a), h.b[:1]) },
		} {
			l := call()
			first := fmt.Sprint(l)
			_ = append(l, api.Match{Done: -7}, api.Match{Done: -7})
			again := call()
			for j := range l {
				spoil(l[j : j+1 : j+1])
				if rest := call()[j:]; fmt.Sprint(l[j+1:]) != fmt.Sprint(rest[1:]) {
					t.Errorf("%d: %d: %v is not %v", i, j, l[j+1:], rest[1:])
				}
			}
			clear(l[:cap(l)])
			if got := fmt.Sprint(again); len(l) == 0 && i > 1 || got != first {
				t.Errorf("%d: %s is not %s", i, got, first)
			}
			if !reflect.DeepEqual(h, want) || !reflect.DeepEqual(h.rooms(), want.rooms()) {
				t.Fatalf("%d: %v is not %v", i, h.rooms(), want.rooms())
			}
		}
	}
}

// P3: the same answers come, whatever was asked in between, and in whichever order maps are gone through.
func TestSameAgain(t *testing.T) {
	r := dice(150)
	q := parsed(t, "seq a x then not c n within 3 by id")
	l := waves("a1.30 9*a2.20.. 9*a2.1.. a3.9")
	for i := range l {
		l[i].Seq = 0
	}
	want, since := ledger.Book(world(), q, l, 9)
	if told(want) != "4:a1.30/, 5:a2.20/, 6:a3.9/" || since != -1 {
		t.Error(told(want), since)
	}
	for range 300 {
		other, some := r.thrown()
		ledger.Book(world(), other, some, 9)
		ledger.Minus(want, []api.Match{r.match()})
		if got, s := ledger.Book(world(), q, l, 9); !alikeBooks(got, s, want, since) {
			t.Fatalf("%s: %s since %d", tree.Print(other), told(got), s)
		}
	}
}

// P3: calls that are made at once, of the same arguments too, see nothing of one another.
func TestAtOnce(t *testing.T) {
	h := roomy(t, "any")
	want := h.answers()
	var all sync.WaitGroup
	for n := range 8 {
		all.Go(func() {
			r := dice(n)
			for range 60 {
				q, l := r.thrown()
				book(t, world(), q, l, int64(r.below(30)))
				if got := h.answers(); got != want {
					t.Errorf("%s is not %s", got, want)
				}
			}
		})
	}
	all.Wait()
}
