package timeline_test

import (
	"fmt"
	"math"
	"reflect"
	"slices"
	"strings"
	"sync"
	"testing"

	"augury/api"
	"augury/timeline"
)

// wildQueries are of anything, some right.
func wildQueries(t *testing.T) []api.Query {
	l := []api.Query{{}, {Items: []api.Item{}, Preds: []api.Pred{}}, {Items: []api.Item{{}}}, {Items: make([]api.Item, 9)}, {Preds: make([]api.Pred, 9)}}
	for _, n := range []int{math.MinInt, -1, 0, 1, 4, math.MaxInt} {
		for _, names := range [][]string{nil, {""}, {"a"}, {"\xff", "a"}, {"x", "x", "x", "x"}} {
			for _, v := range []string{"", "x", "\xff", "seq"} {
				l = append(l, api.Query{Items: []api.Item{{Not: n == 0, Names: names, Var: v, Mode: n}, {Not: n == 1, Names: names, Var: v, Mode: n}}, Preds: []api.Pred{{Cmp: n}}, Within: int64(n), By: v, Pick: n})
			}
		}
	}
	for _, s := range []string{"a x within 0", "a x+ within 1099511627776", "a x then not a n within 0 by id pick next", "a x then a y? then not b n where sum(y.v) + 1 > count(y) and 'a' != y.v within 3 by v pick strict"} {
		l = append(l, parsed(t, "seq "+s))
	}
	return l
}

// wildTimes are the least and greatest, and those about the bounds.
var wildTimes = []int64{math.MinInt64, math.MinInt64 + 1, -most - 1, -1, 0, 1, 5, most - 1, most, most + 1, most + 2, math.MaxInt64 - 1, math.MaxInt64}

// wildVersions are of anything, some right.
func wildVersions(t *testing.T) []api.Version {
	l := []api.Version{{}, {Drop: true}}
	for i, q := range wildQueries(t) {
		at := wildTimes[i%len(wildTimes)]
		l = append(l, api.Version{From: at, Query: q}, api.Version{From: at, Drop: true, Query: q}, api.Version{From: 5, Query: q}, drop(at))
	}
	for _, at := range wildTimes {
		l = append(l, api.Version{From: at, Query: parsed(t, "seq a x within 3")})
	}
	return l
}

// wildEvents are of anything.
func wildEvents() []api.Event {
	l := []api.Event{{}, {Name: "a"}, {Name: "a", Ts: most}, {Name: "b", Ts: 1, Vals: make([]api.Val, 8)}, {Name: "a", Ts: 1, Vals: slices.Repeat([]api.Val{{Kind: api.Int}}, 2)}}
	for _, n := range wildTimes {
		for _, s := range []string{"", "a", "\xff", strings.Repeat("a", 99)} {
			l = append(l, api.Event{Ts: n, Depth: int(n), Seq: n, Name: s, Vals: []api.Val{{Kind: int(n), N: n, S: s}}}, api.Event{Ts: n, Name: s, Vals: []api.Val{{Kind: api.Int, N: n}, {Kind: api.Text, S: s}}})
		}
	}
	return l
}

// all holds all calls against the sketch's.
func all(t *testing.T, s []api.Schema, l []api.Version, v api.Version, ev []api.Event, time int64) {
	t.Helper()
	if got := timeline.Right(l); got != sketchRight(l) {
		t.Errorf("%v: %v", l, got)
	}
	put(t, l, v)
	back(t, l)
	if got, want := toldSpans(timeline.Spans(l)), toldSpans(sketchSpans(l)); got != want {
		t.Errorf("%v: %s is not %s", l, got, want)
	}
	if got, want := timeline.At(l, time), sketchAt(l, time); got != want {
		t.Errorf("%v at %d: %d is not %d", l, time, got, want)
	}
	book(t, s, l, ev, time)
}

// P1, P2: calls end, and none panics, at all arguments; what they answer is what the document's words say.
func TestAllArguments(t *testing.T) {
	ev, vs := wildEvents(), wildVersions(t)
	schemas := [][]api.Schema{nil, {}, {{}}, make([]api.Schema, 99), world(), {{Name: "a", Fields: slices.Repeat([]api.Field{{Name: "id", Kind: -1}}, 9)}}}
	var right []api.Version
	for _, v := range vs {
		if timeline.Right([]api.Version{v}) {
			right = append(right, v)
		}
	}
	if len(right) < 10 || len(right) > len(vs)/2 {
		t.Error("too few", len(right), len(vs))
	}
	for i, v := range vs {
		rows := [][]api.Version{nil, {}, {v}, {v, v}, {vs[len(vs)-1-i], v}, {v, vs[len(vs)-1-i]}, vs[i:], vs[:i%10], {right[i%len(right)], v}, {right[i%len(right)], drop(most), v}}
		for j, l := range rows {
			n := i + j
			all(t, schemas[n%len(schemas)], l, vs[n*7%len(vs)], ev[n%len(ev):], wildTimes[n%len(wildTimes)])
			all(t, world(), l, v, ev, math.MaxInt64)
		}
		if t.Failed() {
			t.FailNow()
		}
	}
}

// P1: no versions, no events, events without values, no schemas, names that are empty.
func TestNothing(t *testing.T) {
	for _, l := range [][]api.Version{nil, {}} {
		for _, time := range wildTimes {
			for _, ev := range [][]api.Event{nil, {}, {{}}, events("a1 b2")} {
				if got, since := timeline.Book(nil, l, ev, time); len(got) > 0 || since != -1 {
					t.Errorf("%s since %d", told(got), since)
				}
			}
			if at := timeline.At(l, time); at != -1 {
				t.Error(at)
			}
		}
		if got, e := timeline.Back(l); len(got) > 0 || e != api.ErrNone {
			t.Error(got, e)
		}
		if got, e := timeline.Put(l, api.Version{}); len(got) > 0 || e != api.ErrArg {
			t.Error(got, e)
		}
		if !timeline.Right(l) || len(timeline.Spans(l)) > 0 {
			t.Error(l)
		}
	}
	for _, by := range []string{"", " by id"} {
		l := versions(t, "0 a x within 5"+by+" | 2 a x then not c n within 1"+by)
		for _, schemas := range [][]api.Schema{nil, {}, {{}}, world()} {
			for _, ev := range [][]api.Event{nil, {}, {{}}, {{Ts: 1}, {Ts: 2, Vals: []api.Val{{}}}}, {{Name: "a", Ts: -1}}} {
				if got, since := book(t, schemas, l, ev, 9); len(got) > 0 || since != -1 {
					t.Errorf("%q: %v: %s since %d", by, ev, told(got), since)
				}
			}
			// Events without values are events; of no part, if there is a field that parts.
			want := "1:a1, 2:a1/"
			if by != "" {
				want = ""
			}
			for _, vals := range [][]api.Val{nil, {}} {
				if got, since := book(t, schemas, l, []api.Event{{Ts: 1, Name: "a", Vals: vals}}, 9); told(got) != want || since != -1 {
					t.Errorf("%q: %s since %d", by, told(got), since)
				}
			}
		}
	}
	wrong := versions(t, "0 a x within 5")
	wrong[0].Query.Items[0].Names = []string{""}
	if got, since := timeline.Book(nil, wrong, []api.Event{{Ts: 1}}, 9); len(got) > 0 || since != -1 {
		t.Error(told(got), since)
	}
}

// P1: whatever there is much of: events, and versions.
func TestMuch(t *testing.T) {
	const many = 1 << 16
	var ev []api.Event
	for n := range int64(many) {
		ev = append(ev, api.Event{Ts: many - n/2, Seq: n, Name: "a", Vals: []api.Val{{Kind: api.Int, N: n}, {Kind: api.Int, N: n % 16}}})
	}
	var text []string
	for n := range 8 {
		text = append(text, fmt.Sprint(n*many/8)+" a x within 1099511627776 by id")
	}
	if got, since := timeline.Book(world(), versions(t, strings.Join(text, " | ")), ev, math.MaxInt64); len(got) != many || since != -1 {
		t.Error(len(got), since)
	}
	if got, since := timeline.Book(world(), begins(t, "0 1 2 3 4 5 6"), ev, 2*many); len(got) != many || since != -1 {
		t.Error(len(got), since)
	}
	long := slices.Repeat(begins(t, "0"), 1<<20)
	if got, e := timeline.Put(long, long[0]); len(got) > 0 || e != api.ErrArg || timeline.Right(long) || timeline.At(long, 5) != -1 {
		t.Error(len(got), e)
	}
	if got, since := timeline.Book(world(), long, ev, 9); len(got) > 0 || since != -1 {
		t.Error(len(got), since)
	}
	wide := begins(t, "0")
	wide[0].Query.Items = slices.Repeat(wide[0].Query.Items, 1<<20)
	wide = append(wide, drop(5))
	wide[1].Query.Preds = make([]api.Pred, 1<<20)
	for _, l := range [][]api.Version{wide, wide[:1], append(begins(t, "0"), wide[1])} {
		if timeline.Right(l) {
			t.Error(len(l))
		}
	}
}

// P1: an expression may be deeper than may be, and below itself: its version is not right. The deepest one goes as any other.
func TestDeep(t *testing.T) {
	v := api.Expr{Kind: api.ExVal, Val: api.Val{Kind: api.Int, N: 1}}
	ring := api.Expr{Kind: api.ExSub, Kids: []api.Expr{v, v}}
	ring.Kids[1] = ring
	deep := v
	for range api.MaxDeep - 1 {
		deep = api.Expr{Kind: api.ExAdd, Kids: []api.Expr{deep, deep}}
	}
	l := begins(t, "0")
	of := func(x api.Expr) api.Version {
		v := version(t, "5 a x within 5 by id")
		v.Query.Preds = []api.Pred{{Cmp: api.Lt, L: api.Expr{Kind: api.ExVal, Val: api.Val{Kind: api.Int}}, R: x}}
		return v
	}
	if e, n := put(t, l, of(deep)); e != api.OK || len(n) != 2 {
		t.Error(e, n)
	}
	if got, since := book(t, world(), []api.Version{of(deep)}, events("a5.7"), 9); told(got) != "5:a5.7" || since != -1 {
		t.Error(told(got), since)
	}
	deeper := deep
	for range 300 {
		deeper = api.Expr{Kind: api.ExAdd, Kids: []api.Expr{deeper, deeper}}
	}
	for i, x := range []api.Expr{ring, deeper, {Kind: api.ExAdd, Kids: []api.Expr{deep, v}}} {
		if n, e := timeline.Put(l, of(x)); e != api.ErrArg || len(n) > 0 {
			t.Error(i, e)
		}
		both := append(slices.Clone(l), of(x))
		if n, e := timeline.Back(both); e != api.ErrArg || len(n) > 0 || timeline.Right(both) {
			t.Error(i, e)
		}
		if n, e := timeline.Put(both, drop(9)); e != api.ErrArg || len(n) > 0 {
			t.Error(i, e)
		}
		if got, since := timeline.Book(world(), both, events("a1.7 a6.7"), 9); len(got) > 0 || since != -1 {
			t.Error(i, told(got), since)
		}
	}
}

// roomier is a list with spare room, that holds something.
func roomier[T any](l []T, spare T) []T { return append(slices.Clone(l), spare, spare)[:len(l)] }

// roomyQuery is a query with spare room in each list.
func roomyQuery(q api.Query) api.Query {
	q.Items = roomier(q.Items, api.Item{Names: []string{"b"}, Var: "spare", Mode: api.One})
	for i := range q.Items {
		q.Items[i].Names = roomier(q.Items[i].Names, "c")
	}
	q.Preds = roomier(q.Preds, api.Pred{Cmp: 9})
	for i := range q.Preds {
		q.Preds[i].L.Kids = roomier(q.Preds[i].L.Kids, api.Expr{Kind: 9})
		for j := range q.Preds[i].L.Kids {
			x := &q.Preds[i].L.Kids[j]
			x.Kids = roomier(x.Kids, api.Expr{Kind: 8})
		}
	}
	return q
}

// handed is what is handed in, with spare room in each list.
type handed struct {
	s      []api.Schema
	l      []api.Version
	more   api.Version
	events []api.Event
}

func roomy(t *testing.T) handed {
	const asks = " where x.v + (1 + 2) >= y.v - 1 and count(x) < 7"
	h := handed{
		s:      roomier(world(), api.Schema{Name: "spare"}),
		l:      roomier(versions(t, "1 a or b x+ then not c n then b y?"+asks+" within 5 by id | 4 a x within 3 | 5 drop | 6 a x then b or a y"+asks+" within 4 pick next"), drop(77)),
		more:   version(t, "5 b or a x then c y? where 2 + x.v - 9 < 3 + (x.v + 1) within 2"),
		events: roomier(events("b4.2.7 a3.7.2 a1.8.2 a1.7.2 a9 b4.2.7 c5.8 a0^3.8.1 d9 b9.1.1 a6.1.1 a7.2.2"), one("a1.7.7")),
	}
	for i := range h.s {
		h.s[i].Fields = roomier(h.s[i].Fields, api.Field{Name: "spare", Kind: 1})
	}
	for i := range h.l {
		h.l[i].Query = roomyQuery(h.l[i].Query)
	}
	h.more.Query = roomyQuery(h.more.Query)
	for i := range h.events {
		h.events[i].Vals = roomier(h.events[i].Vals, api.Val{Kind: api.Int, N: 77})
	}
	return h
}

// roomsOfExpr are all lists of an expression, with their spare room.
func roomsOfExpr(x api.Expr) []any {
	l := []any{x.Kids[:cap(x.Kids)]}
	for _, k := range x.Kids {
		l = append(l, roomsOfExpr(k)...)
	}
	return l
}

// roomsOf are all lists of versions, with their spare room.
func roomsOf(l []api.Version) []any {
	out := []any{l[:cap(l)]}
	for _, v := range l {
		q := v.Query
		out = append(out, q.Items[:cap(q.Items)], q.Preds[:cap(q.Preds)])
		for _, it := range q.Items {
			out = append(out, it.Names[:cap(it.Names)])
		}
		for _, p := range q.Preds {
			out = append(out, roomsOfExpr(p.L)...)
			out = append(out, roomsOfExpr(p.R)...)
		}
	}
	return out
}

// rooms are all lists, with their spare room.
func (h handed) rooms() []any {
	l := append([]any{h.s[:cap(h.s)], h.events[:cap(h.events)]}, roomsOf(h.l)...)
	l = append(l, roomsOf([]api.Version{h.more})...)
	for _, s := range h.s {
		l = append(l, s.Fields[:cap(s.Fields)])
	}
	for _, e := range h.events {
		l = append(l, e.Vals[:cap(e.Vals)])
	}
	return l
}

// same tells whether all that was handed in is as another one still is.
func (h handed) same(other handed) bool {
	return reflect.DeepEqual(h, other) && reflect.DeepEqual(h.rooms(), other.rooms())
}

// answers are all that the calls answer of what is handed in.
func (h handed) answers() string {
	var out []any
	for time := int64(-1); time < 14; time++ {
		m, since := timeline.Book(h.s, h.l, h.events, time)
		out = append(out, m, since, timeline.At(h.l, time))
	}
	for n := range h.l {
		l, e := timeline.Back(h.l[:n])
		out = append(out, l, e, timeline.Right(h.l[n:]), timeline.Spans(h.l[:n]))
		for _, v := range append(h.l[n:n+1:n+1], h.more, drop(3), drop(99)) {
			l, e = timeline.Put(h.l, v)
			out = append(out, l, e)
		}
	}
	return fmt.Sprint(out...)
}

// P3: what is handed in is not changed, nor its spare room; and not kept.
func TestHandedIn(t *testing.T) {
	h, want := roomy(t), roomy(t)
	first := h.answers()
	if !h.same(want) {
		t.Errorf("%v is not %v", h.rooms(), want.rooms())
	}
	if got := want.answers(); got != first {
		t.Errorf("%s is not %s", got, first)
	}
	// What is written to it behind the call is seen, and nothing of what it was.
	h.events = h.events[1:]
	for i, c := range []struct {
		change func()
		want   string
	}{
		{func() { h.l[0].Query.Preds, h.l[3].Query.Preds = nil, nil }, "7:a6.1.1/a7.2.2, 9:a7.2.2/a9, 9:a9/b9.1.1"},
		{func() { h.l[0].Query.Items, h.l[3].Query.Pick = h.l[0].Query.Items[:1], api.Strict }, ""},
		{func() { h.l[1].From = 3 }, ""},
		{func() { h.l = h.l[:3] }, "1:a0^3.8.1 a1.8.2, 1:a1.8.2, 3:a3.7.2"},
		{func() { h.events[0].Ts = 2 }, "1:a0^3.8.1 a1.8.2, 1:a1.8.2, 2:a1.7.2 a2.7.2, 2:a2.7.2"},
		{func() { h.l[0].Query.Items[0].Names[0] = "c" }, ""},
		{func() { h.l[2].From = 99 }, ""},
		{func() { h.s[0].Fields[1].Name = "w" }, ""},
	} {
		c.change()
		if got, since := book(t, h.s, h.l, h.events, 10); c.want != "" && told(got) != c.want || since != -1 {
			t.Errorf("%d: %s since %d", i, told(got), since)
		}
		for n := range h.l {
			put(t, h.l, h.l[n])
			back(t, h.l[:n+1])
		}
	}
	if got := want.answers(); got != first {
		t.Errorf("%s is not %s", got, first)
	}
}

// spoilExpr writes to all that lies in an expression.
func spoilExpr(x api.Expr) {
	for _, k := range x.Kids {
		spoilExpr(k)
	}
	clear(x.Kids[:cap(x.Kids)])
}

// spoil writes to all that lies in a version, its spare room too.
func spoil(v api.Version) {
	q := v.Query
	for _, it := range q.Items {
		clear(it.Names[:cap(it.Names)])
	}
	clear(q.Items[:cap(q.Items)])
	for _, p := range q.Preds {
		spoilExpr(p.L)
		spoilExpr(p.R)
	}
	clear(q.Preds[:cap(q.Preds)])
}

// P3: versions that come out are new memory, their spare room too, and what lies in them: they may be written to,
// and grow, without being seen in what was handed in, in one another, and in what another call answers.
func TestVersionsComeOut(t *testing.T) {
	h, want := roomy(t), roomy(t)
	// Versions that share their lists.
	shared := []api.Version{h.l[0], h.l[0], h.l[0]}
	shared[1].From, shared[2].From = 2, 3
	shared[2].Query.Preds = slices.Clone(h.l[0].Query.Preds)
	shared[2].Query.Preds[0].R.Kids = shared[2].Query.Preds[0].L.Kids
	eight := begins(t, "0 2 4 6 8 10 12 14")
	for i, call := range []func() ([]api.Version, api.Errno){
		func() ([]api.Version, api.Errno) { return timeline.Put(h.l, h.more) },
		func() ([]api.Version, api.Errno) { return timeline.Put(nil, h.more) },
		func() ([]api.Version, api.Errno) { return timeline.Put(h.l, drop(99)) },
		func() ([]api.Version, api.Errno) { return timeline.Put(h.l[:3], drop(99)) },
		func() ([]api.Version, api.Errno) { return timeline.Put(h.l, drop(0)) },
		func() ([]api.Version, api.Errno) { return timeline.Put(eight, drop(99)) },
		func() ([]api.Version, api.Errno) { return timeline.Put(eight, h.more) },
		func() ([]api.Version, api.Errno) { v := h.l[0]; v.From = 99; return timeline.Put(h.l, v) },
		func() ([]api.Version, api.Errno) { v := h.l[0]; v.From = 4; return timeline.Put(shared, v) },
		func() ([]api.Version, api.Errno) { return timeline.Back(h.l) },
		func() ([]api.Version, api.Errno) { return timeline.Back(shared) },
		func() ([]api.Version, api.Errno) { return timeline.Back(h.l[:2]) },
		func() ([]api.Version, api.Errno) { return timeline.Back(h.l[:1]) },
	} {
		l, e := call()
		first := fmt.Sprint(l)
		_ = append(l, drop(-7), drop(-7))
		again, _ := call()
		for j := range l {
			spoil(l[j])
			if rest, _ := call(); !alike(l[j+1:], rest[j+1:]) {
				t.Errorf("%d: %d: %v is not %v", i, j, l[j+1:], rest[j+1:])
			}
		}
		clear(l[:cap(l)])
		if got := fmt.Sprint(again); len(l) == 0 || got != first {
			t.Errorf("%d: %v: %s is not %s", i, e, got, first)
		}
		if !h.same(want) {
			t.Fatalf("%d: %v is not %v", i, h.rooms(), want.rooms())
		}
	}
}

// P3: what lies within one query of an answer is its own, too.
func TestExprsComeOut(t *testing.T) {
	h := roomy(t)
	p := &h.l[0].Query.Preds[0]
	p.R.Kids = p.L.Kids
	l, e := timeline.Back(h.l)
	first := fmt.Sprint(l[0].Query.Preds[0].R)
	spoilExpr(l[0].Query.Preds[0].L)
	if got := fmt.Sprint(l[0].Query.Preds[0].R); e != api.OK || got != first {
		t.Errorf("%v: %s is not %s", e, got, first)
	}
}

// P3: spans and matches that come out are new memory, too.
func TestBooksComeOut(t *testing.T) {
	h, want := roomy(t), roomy(t)
	book := func() []api.Match { m, _ := timeline.Book(h.s, h.l, h.events, 12); return m }
	m, again := book(), book()
	first := told(m)
	_ = append(m, api.Match{Done: -7}, api.Match{Done: -7})
	for j := range m {
		for _, row := range m[j].Bound {
			for _, e := range row {
				clear(e.Vals[:cap(e.Vals)])
			}
			clear(row[:cap(row)])
		}
		clear(m[j].Bound[:cap(m[j].Bound)])
		if rest := book(); !alikeBooks(m[j+1:], rest[j+1:]) {
			t.Errorf("%d: %s is not %s", j, told(m[j+1:]), told(rest[j+1:]))
		}
	}
	clear(m[:cap(m)])
	if got := told(again); len(m) < 3 || got != first {
		t.Errorf("%s is not %s", got, first)
	}
	s, more := timeline.Spans(h.l), timeline.Spans(h.l)
	_ = append(s, api.Span{At: -7}, api.Span{At: -7})
	clear(s[:cap(s)])
	if got := toldSpans(more); got != "0:1-4 1:4-5 3:6-1099511627777" || got != toldSpans(timeline.Spans(h.l)) {
		t.Error(got)
	}
	if !h.same(want) {
		t.Errorf("%v is not %v", h.rooms(), want.rooms())
	}
}

// P3: the same answers come, whatever was asked in between.
func TestSameAgain(t *testing.T) {
	r := dice(157)
	h := roomy(t)
	want := h.answers()
	for range 100 {
		l := r.anyVersions()
		timeline.Book(world(), l, r.crowd(20), 30)
		timeline.Put(l, h.more)
		timeline.Put(h.l, r.version(3))
		timeline.Back(l)
		if got := h.answers(); got != want {
			t.Fatalf("%s is not %s", got, want)
		}
	}
}

// P3: calls that are made at once, of the same arguments too, see nothing of one another.
func TestAtOnce(t *testing.T) {
	h := roomy(t)
	want := h.answers()
	var calls sync.WaitGroup
	for n := range 8 {
		calls.Go(func() {
			r := dice(n)
			for range 40 {
				all(t, world(), r.anyVersions(), r.version(int64(r.below(30))), r.crowd(20), int64(r.below(30)))
				if got := h.answers(); got != want {
					t.Errorf("%s is not %s", got, want)
				}
			}
		})
	}
	calls.Wait()
}
