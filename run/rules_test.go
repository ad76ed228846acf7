package run_test

import (
	"fmt"
	"math"
	"reflect"
	"slices"
	"strconv"
	"strings"
	"sync"
	"testing"

	"augury/api"
	"augury/run"
	"augury/tree"
)

// wildQueries are of anything, some right.
func wildQueries(t *testing.T) []api.Query {
	l := []api.Query{{}, {Items: []api.Item{}}, {Items: []api.Item{{}}}, {Items: make([]api.Item, 9)}, {Preds: make([]api.Pred, 9)}}
	for _, n := range []int{math.MinInt, -1, 0, 1, 2, 3, 4, math.MaxInt} {
		for _, names := range [][]string{nil, {}, {""}, {"a"}, {"\xff", "a"}, {"x", "x", "x", "x"}} {
			for _, v := range []string{"", "x", "'", "\xff", "seq"} {
				l = append(l, api.Query{Items: []api.Item{{Not: n == 0, Names: names, Var: v, Mode: n}, {Not: n == 1, Names: names, Var: v, Mode: n}}, Preds: []api.Pred{{Cmp: n}}, Within: int64(n), By: v, Pick: n})
			}
		}
	}
	for _, s := range []string{"a x within 0", "a x+ within 1099511627776", "a x then not a n within 0 pick next", "a x then a y? then not b n where sum(y.v) + 1 > count(n) and 'a' = y.v within 3 by v pick strict"} {
		l = append(l, parsed(t, "seq "+s))
	}
	return l
}

// wildEvents are of anything.
func wildEvents() []api.Event {
	l := []api.Event{{}, {Name: "a"}, {Name: "a", Ts: most}, {Name: "b", Ts: 1, Vals: make([]api.Val, 8)}}
	for _, n := range []int64{math.MinInt64, -1, 0, 1, most, most + 1, math.MaxInt64} {
		for _, s := range []string{"", "a", "\xff", strings.Repeat("a", 99)} {
			l = append(l, api.Event{Ts: n, Depth: int(n), Seq: n, Name: s, Vals: []api.Val{{Kind: int(n), N: n, S: s}}}, api.Event{Ts: n, Name: s, Vals: []api.Val{{Kind: api.Int, N: n}, {Kind: api.Text, S: s}}})
		}
	}
	return l
}

// wildRuns are of anything.
func wildRuns() []api.Run {
	var l []api.Run
	for _, at := range []int{math.MinInt, -1, 0, 1, 2, 3, math.MaxInt} {
		l = append(l, api.Run{At: at}, api.Run{At: at, Bound: [][]api.Event{}})
		for rows := 1; rows < 5; rows++ {
			l = append(l, api.Run{At: at, Bound: make([][]api.Event, rows)}, api.Run{At: at, Bound: slices.Repeat([][]api.Event{{{}}}, rows)})
			for _, ts := range []int64{math.MinInt64, -1, 0, 1, most, most + 1, math.MaxInt64} {
				l = append(l, api.Run{At: at, Bound: slices.Repeat([][]api.Event{{{Ts: ts, Depth: -1, Name: "\xff", Vals: make([]api.Val, 3)}, {Ts: -ts}}}, rows)})
			}
		}
	}
	return l
}

// P1, P2: calls end, and none panics, at all arguments; what they answer is what the document's words say.
func TestAllArguments(t *testing.T) {
	events, l := wildEvents(), wildRuns()
	schemas := [][]api.Schema{nil, {}, {{}}, make([]api.Schema, 99), world(), {{Name: "a", Fields: slices.Repeat([]api.Field{{Name: "v", Kind: -1}}, 9)}}}
	for i, q := range wildQueries(t) {
		for j, e := range events {
			steps(t, schemas[(i+j)%len(schemas)], q, l[(i*7+j)%len(l):], e)
			times(t, q, l, e.Ts)
			if got, want := run.Names(q, e.Name), slices.ContainsFunc(q.Items, func(it api.Item) bool { return slices.Contains(it.Names, e.Name) }); got != want {
				t.Errorf("%v: %q: %v", q, e.Name, got)
			}
		}
		for _, r := range l {
			if got, want := run.Waits(q, r), sketchWaits(q, r); got != want {
				t.Errorf("%v: %v: %v", q, r, got)
			}
		}
		if t.Failed() {
			t.FailNow()
		}
	}
	for _, r := range l {
		want := int64(0)
		if len(r.Bound) > 0 && len(r.Bound[0]) > 0 {
			want = r.Bound[0][0].Ts
		}
		if got := run.First(r); got != want {
			t.Errorf("%v: %d", r, got)
		}
	}
}

// P1: no items, nil runs, runs whose rows are nil, no schemas, names that are empty.
func TestNothing(t *testing.T) {
	empty := []api.Query{{}, {Items: []api.Item{}}, {Items: []api.Item{}, Within: 5, Pick: api.Any}}
	for i, q := range empty {
		for _, l := range [][]api.Run{nil, {}, {{}}, {{At: -1}}, {{Bound: [][]api.Event{nil}}}, runs("0:a1")} {
			on, found := run.Time(q, l, 5)
			some, more := run.Step(nil, q, l, one("a2"))
			if len(on)+len(found)+len(some)+len(more) > 0 || len(l) > 0 && run.Waits(q, l[0]) {
				t.Errorf("%d: %v", i, l)
			}
		}
		if run.Names(q, "") || run.Names(q, "a") {
			t.Error(i)
		}
	}
	q := parsed(t, "seq a x then not b n within 5")
	for _, l := range [][]api.Run{nil, {}, {{}, {}}, {{Bound: make([][]api.Event, 2)}}, {{Bound: [][]api.Event{nil, {one("b1")}}}}, {{Bound: [][]api.Event{{}, {}}}}} {
		if on, found := run.Time(q, l, -1); len(on)+len(found) > 0 {
			t.Errorf("%v: %v %v", l, on, found)
		}
		for _, schemas := range [][]api.Schema{nil, {}, world()} {
			if on, found := run.Step(schemas, q, l, one("a2")); toldRuns(on) != "0:a2/" || len(found) > 0 {
				t.Errorf("%v: %v %v", l, on, found)
			}
			if on, found := run.Step(schemas, q, l, api.Event{Ts: 2}); len(on)+len(found) > 0 {
				t.Errorf("%v: %v %v", l, on, found)
			}
			if on, found := run.Step(schemas, q, l, one("b2")); len(on)+len(found) > 0 {
				t.Errorf("%v: %v %v", l, on, found)
			}
		}
		for _, r := range l {
			if run.Waits(q, r) || run.First(r) != 0 {
				t.Errorf("%v", r)
			}
		}
	}
}

// P1: whatever there is much of.
func TestMuch(t *testing.T) {
	const many = 1 << 16
	long := strings.Repeat("a", 1<<24)
	q := parsed(t, "seq a x+ then not c n then b y? then not d m within 5 pick next")
	one16 := slices.Repeat(runs("0:a1///, 2:a1//b2/"), many/2)
	if on, found := run.Time(q, one16, 5); len(on) != many || len(found) != 0 {
		t.Error(len(on), len(found))
	}
	if on, found := run.Time(q, one16, 6); len(on) != 0 || len(found) != many {
		t.Error(len(on), len(found))
	}
	if on, found := run.Step(world(), q, one16, one("b3")); len(on) != many || len(found) != 0 || toldRuns(on[many-2:]) != "2:a1//b3/, 2:a1//b2/" {
		t.Error(len(on), len(found))
	}
	if on, found := run.Step(world(), q, one16, one("a7")); len(on) != 1 || len(found) != many {
		t.Error(len(on), len(found))
	}
	row := api.Run{Bound: [][]api.Event{slices.Repeat([]api.Event{one("a1.1")}, 1<<20), slices.Repeat([]api.Event{{Name: long, Vals: make([]api.Val, 99)}}, 1<<10), nil, nil}}
	on, found := run.Step(world(), q, []api.Run{row}, one("a2.1"))
	if len(on) != 2 || len(found) != 0 || len(on[0].Bound[0]) != 1<<20+1 || len(on[0].Bound[1]) != 1<<10 {
		t.Error(len(on), len(found))
	}
	if run.First(row) != 1 || !run.Waits(q, row) || run.Names(q, long) {
		t.Error("first, waits, names")
	}
	if on, found := run.Step(world(), q, one16[:2], api.Event{Ts: 3, Name: long}); len(on) != 2 || len(found) != 0 {
		t.Error(len(on), len(found))
	}
	if on, found := run.Step(make([]api.Schema, 1<<20), q, one16[:2], one("b3.1")); len(on) != 2 || len(found) != 0 {
		t.Error(len(on), len(found))
	}
	wide := api.Query{Items: make([]api.Item, many), Preds: make([]api.Pred, many), Pick: 1}
	for i := range wide.Items {
		wide.Items[i] = api.Item{Names: []string{"a", strconv.Itoa(i)}, Var: "x" + strconv.Itoa(i), Mode: 1}
	}
	full := api.Run{Bound: slices.Repeat([][]api.Event{{one("a1")}}, many)}
	if on, found := run.Step(world(), wide, []api.Run{full}, one("a1")); len(on)+len(found) > 0 || run.Waits(wide, full) || !run.Names(wide, strconv.Itoa(many-1)) {
		t.Error(len(on), len(found))
	}
}

// P1: an expression may be deeper than may be, and below itself: its query is not right.
func TestDeep(t *testing.T) {
	val := api.Expr{Kind: api.ExVal, Val: api.Val{Kind: api.Int, N: 1}}
	ring := api.Expr{Kind: api.ExSub, Kids: []api.Expr{val, val}}
	ring.Kids[1] = ring
	deep := val
	for range api.MaxDeep + 300 {
		deep = api.Expr{Kind: api.ExAdd, Kids: []api.Expr{deep, deep}}
	}
	for _, x := range []api.Expr{ring, deep} {
		q := parsed(t, "seq a x+ then not b n within 5")
		l := runs("0:a1/")
		if !run.Waits(q, l[0]) {
			t.Error("does not wait")
		}
		q.Preds = []api.Pred{{Cmp: api.Eq, L: val, R: x}}
		on, found := run.Step(world(), q, l, one("a2"))
		some, more := run.Time(q, l, 3)
		if len(on)+len(found)+len(some)+len(more) > 0 || run.Waits(q, l[0]) || !run.Names(q, "b") {
			t.Error(on, found)
		}
	}
}

// roomier is a list with spare room, that holds something.
func roomier[T any](l []T, spare T) []T { return append(slices.Clone(l), spare, spare)[:len(l)] }

// handed is what is handed in, with spare room in each list.
type handed struct {
	l    []api.Schema
	q    api.Query
	runs []api.Run
	e    api.Event
}

func roomy(t *testing.T, pick string) handed {
	h := handed{
		l:    roomier(world(), api.Schema{Name: "spare"}),
		q:    parsed(t, "seq a or b x+ then not c n then b y? then b z where x.v + (1 + 2) >= y.v - 1 and n.v = 3 within 5 pick "+pick),
		runs: roomier(runs("0:a1.1 b2.2///, 0:a3.2///, 2:a2.1//b3.3/, 9:a1///, 0:b0.4///, 0:a1//b9.9/b8.8"), runs("0:a3.9///")[0]),
		e:    one("b4.2"),
	}
	for i := range h.l {
		h.l[i].Fields = roomier(h.l[i].Fields, api.Field{Name: "spare", Kind: 1})
	}
	h.q.Items = roomier(h.q.Items, api.Item{Names: []string{"b"}, Var: "spare", Mode: api.One})
	for i := range h.q.Items {
		h.q.Items[i].Names = roomier(h.q.Items[i].Names, "c")
	}
	h.q.Preds = roomier(h.q.Preds, api.Pred{Cmp: 9})
	x := &h.q.Preds[0].L
	x.Kids = roomier(x.Kids, api.Expr{Kind: 9})
	for i := range h.runs {
		h.runs[i].Bound = roomier(h.runs[i].Bound, []api.Event{one("a7.7")})
		for j := range h.runs[i].Bound {
			row := roomier(h.runs[i].Bound[j], one("d8.8"))
			for n := range row {
				row[n].Vals = roomier(row[n].Vals, api.Val{Kind: api.Int, N: 77})
			}
			h.runs[i].Bound[j] = row
		}
	}
	h.e.Vals = roomier(h.e.Vals, api.Val{Kind: api.Int, N: 78})
	return h
}

// rooms are all lists, with their spare room.
func (h handed) rooms() []any {
	x := h.q.Preds[0].L
	l := []any{h.l[:cap(h.l)], h.q.Items[:cap(h.q.Items)], h.q.Preds[:cap(h.q.Preds)], x.Kids[:cap(x.Kids)], h.runs[:cap(h.runs)], h.e.Vals[:cap(h.e.Vals)]}
	for _, s := range h.l {
		l = append(l, s.Fields[:cap(s.Fields)])
	}
	for _, it := range h.q.Items {
		l = append(l, it.Names[:cap(it.Names)])
	}
	for _, r := range h.runs {
		l = append(l, r.Bound[:cap(r.Bound)])
		for _, row := range r.Bound {
			l = append(l, row[:cap(row)])
			for _, e := range row {
				l = append(l, e.Vals[:cap(e.Vals)])
			}
		}
	}
	return l
}

// answers are all that the calls answer of what is handed in.
func (h handed) answers() string {
	out := []any{run.Names(h.q, "c"), run.Names(h.q, "d")}
	for _, r := range h.runs {
		out = append(out, run.First(r), run.Waits(h.q, r))
	}
	for time := int64(-1); time < 9; time++ {
		on, found := run.Time(h.q, h.runs, time)
		out = append(out, on, found)
	}
	for _, e := range []api.Event{h.e, one("a4"), one("c4.3"), one("b7.9"), one("d9")} {
		on, found := run.Step(h.l, h.q, h.runs, e)
		out = append(out, on, found)
	}
	return fmt.Sprint(out...)
}

// P3: what is handed in is not changed, nor its spare room; and not kept.
func TestHandedIn(t *testing.T) {
	for _, pick := range []string{"any", "next", "strict"} {
		h, want := roomy(t, pick), roomy(t, pick)
		first := h.answers()
		if !reflect.DeepEqual(h, want) || !reflect.DeepEqual(h.rooms(), want.rooms()) {
			t.Errorf("%v is not %v", h.rooms(), want.rooms())
		}
		if got := want.answers(); got != first {
			t.Errorf("%s is not %s", got, first)
		}
		// What is written to it behind the call is seen, and nothing of what it was.
		for _, c := range []struct {
			change    func()
			on, found string
		}{
			{func() { h.runs = h.runs[1:2] }, "0:a3.2 b4.2///, 0:b4.2///", ""},
			{func() { h.e.Ts = 8 }, "0:a3.2 b8.2///, 0:b8.2///", ""},
			{func() { h.e.Ts = 9 }, "0:b9.2///", ""},
			{func() { h.e.Vals[0].N = 3 }, "0:b9.3///", ""},
			{func() { h.q.Within = 6 }, "0:a3.2 b9.3///, 0:b9.3///", ""},
			{func() { h.q.Items[0].Names[1] = "d" }, "2:a3.2//b9.3/", ""},
			{func() { h.q.Items[3].Mode = api.Opt }, "2:a3.2//b9.3/", "9:a3.2//b9.3/"},
			{func() { h.q.Items[1].Names[0] = "b" }, "", ""},
			{func() { h.l[1].Fields[0].Name, h.l[1].Fields[1].Name = "w", "v" }, "", ""},
			{func() { h.e.Vals = append(h.e.Vals, api.Val{Kind: api.Int, N: 1}) }, "2:a3.2//b9.3.1/", "9:a3.2//b9.3.1/"},
			{func() { h.runs[0].Bound[0][0].Vals[0].N = 90 }, "2:a3.90//b9.3.1/", "9:a3.90//b9.3.1/"},
			{func() { h.runs[0].Bound[0][0].Ts = 2 }, "", "8:a2.90///"},
		} {
			c.change()
			on, found := run.Step(h.l, h.q, h.runs, h.e)
			if pick != "any" && (toldRuns(on) != c.on || toldMatches(found) != c.found) {
				t.Errorf("%s: %s and %s are not %s and %s", pick, toldRuns(on), toldMatches(found), c.on, c.found)
			}
		}
		if got := want.answers(); got != first {
			t.Errorf("%s is not %s", got, first)
		}
	}
}

// P3: lists that come out are new memory, their spare room too: those of one call may be written to, and grow,
// without being seen in what was handed in, in one another, and in what another call answers.
func TestComesOut(t *testing.T) {
	for _, pick := range []string{"any", "next", "strict"} {
		h, want := roomy(t, pick), roomy(t, pick)
		for _, call := range []func() ([]api.Run, []api.Match){
			func() ([]api.Run, []api.Match) { return run.Time(h.q, h.runs, -1) },
			func() ([]api.Run, []api.Match) { return run.Time(h.q, h.runs[:2], 3) },
			func() ([]api.Run, []api.Match) { return run.Step(h.l, h.q, h.runs, one("d3")) },
			func() ([]api.Run, []api.Match) { return run.Step(h.l, h.q, h.runs[:2], one("d3")) },
			func() ([]api.Run, []api.Match) { return run.Step(h.l, h.q, h.runs, api.Event{}) },
			func() ([]api.Run, []api.Match) { return run.Step(h.l, h.q, h.runs, h.e) },
		} {
			on, found := call()
			first := fmt.Sprint(on, found)
			ownOn, ownFound := slices.Clone(on), slices.Clone(found)
			_ = append(on, api.Run{At: -7}, api.Run{At: -7})
			_ = append(found, api.Match{Done: -7}, api.Match{Done: -7})
			again, more := call()
			clear(on[:cap(on)])
			clear(found[:cap(found)])
			if got := fmt.Sprint(again, more); got != first {
				t.Errorf("%s is not %s", got, first)
			}
			if got := fmt.Sprint(ownOn, ownFound); got != first {
				t.Errorf("%s is not %s", got, first)
			}
			if !reflect.DeepEqual(h, want) || !reflect.DeepEqual(h.rooms(), want.rooms()) {
				t.Fatalf("%v is not %v", h.rooms(), want.rooms())
			}
		}
	}
}

// P3: runs that were made of one run go on without being seen in one another, however often each grows.
func TestGrowApart(t *testing.T) {
	q := parsed(t, "seq a x+ then a y+ then b z within 99")
	first, _ := run.Step(world(), q, nil, one("a0"))
	var rowsOf [][]api.Run
	for n := range 6 {
		rowsOf = append(rowsOf, first)
		first, _ = run.Step(world(), q, first, api.Event{Ts: int64(n + 1), Name: "a"})
	}
	var before []string
	for _, l := range rowsOf {
		before = append(before, toldRuns(l))
	}
	// Two events of each beginning, one behind the other: neither is seen in what the other one made.
	for i, l := range rowsOf {
		left, _ := run.Step(world(), q, l, one("a50"))
		told := toldRuns(left)
		right, found := run.Step(world(), q, l, one("a60"))
		if toldRuns(left) != told || strings.ReplaceAll(told, "a50", "a60") != toldRuns(right) || len(found) > 0 {
			t.Errorf("%d: %s and %s", i, toldRuns(left), toldRuns(right))
		}
		_, m := run.Step(world(), q, l, one("b61"))
		_, m2 := run.Step(world(), q, l, one("b62"))
		if strings.ReplaceAll(strings.ReplaceAll(toldMatches(m), "b61", "b62"), "61:", "62:") != toldMatches(m2) {
			t.Errorf("%d: %s and %s", i, toldMatches(m), toldMatches(m2))
		}
	}
	for i, l := range rowsOf {
		if got := toldRuns(l); got != before[i] {
			t.Errorf("%d: %s is not %s", i, got, before[i])
		}
	}
}

// P3: the same answers come, whatever was asked in between.
func TestSameAgain(t *testing.T) {
	r := dice(139)
	for range 20 {
		for _, c := range rowsOfEvents {
			q := r.query(6)
			run.Step(world(), q, r.runs(q, 4), r.event(5))
			run.Time(q, r.runs(q, 4), 5)
			run.Waits(q, r.run(q))
			run.Names(q, "a")
			own := parsed(t, "seq "+c.query)
			if got := toldMatches(found(world(), own, stream(c.events), c.time)); got != c.any {
				t.Errorf("%s: %s", tree.Print(own), got)
			}
		}
	}
}

// P3: calls that are made at once, of the same arguments too, see nothing of one another.
func TestAtOnce(t *testing.T) {
	h := roomy(t, "any")
	want := h.answers()
	var all sync.WaitGroup
	for n := range 8 {
		all.Go(func() {
			r := dice(n)
			for range 200 {
				q := r.query(5)
				steps(t, world(), q, r.runs(q, 4), r.event(int64(r.below(12))))
				if got := h.answers(); got != want {
					t.Errorf("%s is not %s", got, want)
				}
			}
		})
	}
	all.Wait()
}
