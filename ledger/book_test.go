package ledger_test

import (
	"fmt"
	"math"
	"strconv"
	"strings"
	"testing"

	"augury/api"
	"augury/event"
	"augury/ledger"
	"augury/tree"
)

// P14.1: N2, books that are not degraded.
func TestBook(t *testing.T) {
	for i, c := range []struct {
		query, events string
		time          int64
		want          string
	}{
		// The document's example: each of the a's.
		{"a x within 5 by id", "a1.7 a2.8 a2#1.8 a9.7", 90, "1:a1.7, 2:a2.8, 2:a2#1.8, 9:a9.7"},
		// As it is picked.
		{"a x then b y within 5", "a1 b2 b3", 90, "2:a1/b2, 3:a1/b3"},
		{"a x then b y within 5 pick next", "a1 b2 b3", 90, "2:a1/b2"},
		{"a x then b y then c z within 5 pick strict", "a1 b2 b3 c4", 90, ""},
		{"a x then not c n within 3", "a1", 90, "4:a1/"},
		// In one order, not in that in which they are found: of one Done those that began first are ahead.
		{"a x then b y within 9", "a1 a2 b3 b4", 90, "3:a1/b3, 3:a2/b3, 4:a1/b4, 4:a2/b4"},
		{"a x+ within 9", "a1 a2 a3", 90, "1:a1, 2:a1 a2, 2:a2, 3:a1 a2 a3, 3:a1 a3, 3:a2 a3, 3:a3"},
		{"a x+ then b y within 9", "a1 a2 b3", 90, "3:a1/b3, 3:a1 a2/b3, 3:a2/b3"},
		{"a x then b y? then not c n within 3", "a1 b2 b3", 90, "4:a1//, 4:a1/b2/, 4:a1/b3/"},
		{"a x then b y? then c z within 9", "a1 b2 c3", 90, "3:a1//c3, 3:a1/b2/c3"},
		// What waits is found later than what is done behind it.
		{"a x then not c n then b y? within 6", "a1 a2 b3 a4", 90, "3:a1//b3, 3:a2//b3, 7:a1//, 8:a2//, 10:a4//"},
		// Events go in order, however they are given.
		{"a x then b y within 5", "b3 b2 a1", 90, "2:a1/b2, 3:a1/b3"},
		{"a x then b y within 0", "b1#1 a1", 90, "1:a1/b1#1"},
		{"a x then b y within 0", "a1#1 b1", 90, ""},
		{"a x then b y within 0", "b1^1 a1#9", 90, "1:a1#9/b1^1"},
		{"a x then b y within 0", "a1^1 b1#9", 90, ""},
		{"a x+ then b y within 9 pick next", "a4 a2 b9 a1 a3", 90, "9:a1 a2 a3 a4/b9, 9:a2 a3 a4/b9, 9:a3 a4/b9, 9:a4/b9"},
		// Of those of which neither is ahead as they stand.
		{"a x then b y within 0", "a1.5 b1.6", 90, "1:a1.5/b1.6"},
		{"a x then b y within 0", "b1.6 a1.5", 90, ""},
		{"a x then b y then c z within 5", "c2 b2 a1", 90, ""},
		{"a x then b y then c z within 5", "b2 c2 a1", 90, "2:a1/b2/c2"},
		{"a x then b y then c z then d w within 5", "d3 b2 c2 a1 d2", 90, "2:a1/b2/c2/d2, 3:a1/b2/c2/d3"},
		// Up to a time, and at it.
		{"a x within 5", "a1 a2 a3", 2, "1:a1, 2:a2"},
		{"a x within 5", "a1 a2 a3", 3, "1:a1, 2:a2, 3:a3"},
		{"a x within 5", "a3 a2 a1", 0, ""},
		{"a x within 5", "a1 a0", 0, "0:a0"},
		{"a x then b y within 5", "a1 b2 b3", 2, "2:a1/b2"},
		{"a x within 5", "a0 a1099511627776", most, "0:a0, 1099511627776:a1099511627776"},
		{"a x within 5", "a0 a1099511627776", most - 1, "0:a0"},
		// A time that ends what waits: one ahead of an event's, and that of the end.
		{"a x then not c n within 3", "a1", 3, ""},
		{"a x then not c n within 3", "a1", 4, "4:a1/"},
		{"a x then not c n within 3", "a1 c4", 90, ""},
		{"a x then not c n within 3", "a1 c5", 90, "4:a1/"},
		{"a x then not c n within 3", "a1 c5", 4, "4:a1/"},
		{"a x then not c n within 3", "a1 a5", 5, "4:a1/"},
		{"a x then not c n within 0", "a0 c0#1 a1", 1, "1:a1/"},
		{"a x then not c n within 0", "a0", 0, "0:a0/"},
		{"a x then not c n within 1099511627776", "a0 a1099511627776", 2*most - 1, "1099511627776:a0/"},
		{"a x then not c n within 1099511627776", "a0 a1099511627776", 2 * most, "1099511627776:a0/, 2199023255552:a1099511627776/"},
		{"a x then not c n within 1099511627776", "a0 a1099511627776", math.MaxInt64, "1099511627776:a0/, 2199023255552:a1099511627776/"},
		// Below 0 nothing came.
		{"a x within 5", "a0 a1", -1, ""},
		{"a x then not c n within 0", "a0", -1, ""},
		{"a x then not c n within 0", "a0", math.MinInt64, ""},
		{"a x within 5", "a-1 a-1^0 a0", 5, "0:a0"},
		// Nothing.
		{"a x within 5", "", 90, ""},
		{"a x within 5 by id", "", 90, ""},
		{"a x within 5", "b1 c2 d3 e4", 90, ""},
	} {
		q := parsed(t, "seq "+c.query)
		if got, since := book(t, world(), q, events(c.events), c.time); told(got) != c.want || since != -1 {
			t.Errorf("%d: %s since %d", i, told(got), since)
		}
	}
}

// P14.1: N2, books of parts.
func TestBookOfParts(t *testing.T) {
	for i, c := range []struct {
		query, events string
		time          int64
		want          string
	}{
		// A run goes on in its part alone.
		{"a x then a y within 9 by id", "a1.7 a2.8 a3.7 a4.8", 90, "3:a1.7/a3.7, 4:a2.8/a4.8"},
		{"a x then a y within 9", "a1.7 a2.8 a3.7", 90, "2:a1.7/a2.8, 3:a1.7/a3.7, 3:a2.8/a3.7"},
		{"a x then b y within 9 by id", "a1.7.1 b2.7.9 b3.9.7", 90, "3:a1.7.1/b3.9.7"},
		{"a x then b y within 9 by v", "a1.7.1 b2.7.1 b3.1.7", 90, "3:a1.7.1/b3.1.7"},
		// What is strictly next is so in its part, and what must not come.
		{"a x then b y within 9 by id pick strict", "a1.7 a2.8 b3.0.7 b4.0.8", 90, "3:a1.7/b3.0.7, 4:a2.8/b4.0.8"},
		{"a x then b y within 9 by id pick strict", "a1.7 a2.7 b3.0.7", 90, "3:a2.7/b3.0.7"},
		{"a x then not c n then b y within 9 by id", "a1.7 a2.8 c3.7 b4.0.7 b5.0.8", 90, "5:a2.8//b5.0.8"},
		{"a x then not c n within 5 by id", "a1.7 a2.8 c3.7", 90, "7:a2.8/"},
		// Vals of unlike kinds are unlike.
		{"a x then a y within 99 by id", "a1.1 a2.T a3.'1 a4.0 a5.F a6.' a7.'T a8.-1", 90, ""},
		{"a x then a y within 99 by id", "a1.1 a2.T a3.'1 a4.0 a5.F a6.' a7.T a8.1 a9.' a10.0 a11.F a12.'1", 90, "7:a2.T/a7.T, 8:a1.1/a8.1, 9:a6.'/a9.', 10:a4.0/a10.0, 11:a5.F/a11.F, 12:a3.'1/a12.'1"},
		// An event without a Val at By's place is of no part, nor one without such a field, or without a schema.
		{"a x then b or c y within 9 by id", "a1 a2.7 b3.7 c4 c5 c6.7", 90, "6:a2.7/c6.7"},
		{"a x then b or d or e y within 9 by id", "a1 a2.7 b3.7 d4.7 e5.7 b6.0.7", 90, "6:a2.7/b6.0.7"},
		{"a x then c y within 9 by v", "a1.7.8 a2.7 c3.8 c4.7.8", 90, ""},
		{"d x within 9 by id", "d1 d2.7", 90, ""},
		{"e x within 9 by id", "e1 e2.7", 90, ""},
		{"d or e x within 9", "d1 e2.7", 90, "1:d1, 2:e2.7"},
		{"a x then not d n within 5 by id", "a1.7 d2.7 d3", 90, "6:a1.7/"},
		{"a x then a y within 9 by id pick strict", "a1.7 a2 a3.7", 90, "3:a1.7/a3.7"},
	} {
		q := parsed(t, "seq "+c.query)
		if got, since := book(t, world(), q, events(c.events), c.time); told(got) != c.want || since != -1 {
			t.Errorf("%d: %s since %d", i, told(got), since)
		}
	}
}

// P14.1: N2, of matches that are alike that is left that was found first: of events of which neither is ahead, of an event that is given twice, and of parts, in the order in which their first events come.
func TestAlike(t *testing.T) {
	for i, c := range []struct{ query, events, want string }{
		{"a x within 9", "a1.5 a1.6", "1:a1.5"},
		{"a x within 9", "a1.6 a1.5", "1:a1.6"},
		{"a or b x within 9", "b1 a1 b1.3", "1:b1"},
		{"a x within 9", "a2.7 a1.5 a1.6 a2.5 a1.5", "1:a1.5, 2:a2.7"},
		{"a x within 9", "a1.5 a1.5 a1.5", "1:a1.5"},
		{"a x within 9", "a1.5 a1#1.5 a1^1.5", "1:a1.5, 1:a1#1.5, 1:a1^1.5"},
		{"a x then b y within 9", "a1.5 a1.6 b2.7 b2.8", "2:a1.5/b2.7"},
		{"a x then b y within 9", "b2.8 a1.6 b2.7 a1.5", "2:a1.6/b2.8"},
		{"a x then b y within 9 pick next", "a1.5 a1.6 b2.7 b2.8", "2:a1.5/b2.7"},
		{"a x then b y within 9 pick strict", "a1.5 a1.6 b2.7 b2.8", "2:a1.6/b2.7"},
		{"a x then b y where y.v = 3 within 9", "a1 b2.4 b2.3", "2:a1/b2.3"},
		{"a x then not c n within 3", "a1.5 a1.6 a1.5", "4:a1.5/"},
		{"a x+ within 9", "a1.5 a1.6", "1:a1.5, 1:a1.5 a1.6"},
		// Parts: that comes first whose first event does, not that of the least Val, nor of the first run.
		{"a x within 9 by id", "a1.9 a1.3", "1:a1.9"},
		{"a x then not c n within 3 by id", "a1.9 a1.3", "4:a1.9/"},
		{"a x then not c n within 3 by id", "a1.3 a1.9", "4:a1.3/"},
		{"a x then not c n within 3 by id", "a1.'u a1.T a1.9", "4:a1.'u/"},
		{"a x then not c n within 3 by id", "a2.9 a2.3 c1.3", "5:a2.3/"},
		{"a x then not c n within 3 by id", "a2.3 a2.9 c1.9 c1#1.3", "5:a2.9/"},
		{"a x then not c n within 3 by id", "a2.3 a2.9 c1.3 c1.9", "5:a2.3/"},
		{"a x then not c n within 3 by id", "a2.3 a2.6 a2.9 a1.6", "4:a1.6/, 5:a2.6/"},
		// Also if it had no run for long, and others came and went.
		{"a x then not c n within 3 by id", "a9.9 a9.3 a1.3 a2.9", "4:a1.3/, 5:a2.9/, 12:a9.3/"},
		{"a x then not c n within 3 by id", "a9.3 a9.9 a1.9 a2.3", "4:a1.9/, 5:a2.3/, 12:a9.9/"},
		// What has no part, and what the query does not look at, comes first in none.
		{"a x then not c n within 3 by id", "d1.3 a1 c1 b1.3.3 a2.9 a2.3", "5:a2.9/"},
		// Nor does what is not right, nor what comes later than the time.
		{"a x then not c n within 3 by id", "a-1.3 a2.9 a2.3", "5:a2.9/"},
		{"a x then not c n within 3 by id", "a1#1099511627777.3 a2.9 a2.3", "5:a2.9/"},
		{"a x then not c n within 3 by id", "a1#-1.3 a2.9 a2.3", "5:a2.9/"},
		{"a x then not c n within 3 by id", "a1^4.3 a2.9 a2.3", "5:a2.9/"},
		{"a x then not c n within 3 by id", "a1.3.1099511627777 a2.9 a2.3", "5:a2.9/"},
		{"a x then not c n within 3 by id", "a2.9 a2.3 a99.3", "5:a2.9/"},
	} {
		q := parsed(t, "seq "+c.query)
		if got, since := book(t, world(), q, events(c.events), 20); told(got) != c.want || since != -1 {
			t.Errorf("%d: %s since %d", i, told(got), since)
		}
	}
}

// wrongEvents are not right, each for one thing; of a, but for one.
func wrongEvents() []api.Event {
	var l []api.Event
	for _, n := range []int64{math.MinInt64, -1, most + 1, math.MaxInt64} {
		l = append(l, api.Event{Ts: n, Name: "a"}, api.Event{Ts: 3, Seq: n, Name: "a"})
	}
	for _, n := range []int{math.MinInt, -1, 4, math.MaxInt} {
		l = append(l, api.Event{Ts: 3, Depth: n, Name: "a"})
	}
	for _, v := range []api.Val{{}, {Kind: 4}, {Kind: -1}, {Kind: api.Int, N: most + 1}, {Kind: api.Int, N: -most - 1}, {Kind: api.Int, S: "a"}, {Kind: api.Text, N: 1}, {Kind: api.Text, S: strings.Repeat("a", 65)}, {Kind: api.Bool, N: 2}, {Kind: api.Bool, N: -1}, {Kind: api.Bool, S: "a"}} {
		l = append(l, api.Event{Ts: 3, Name: "a", Vals: []api.Val{v}}, api.Event{Ts: 3, Name: "a", Vals: []api.Val{{Kind: api.Int}, v}})
	}
	for _, n := range []string{"", "A", "a ", "_a", "1", "\xff", strings.Repeat("a", 17)} {
		l = append(l, api.Event{Ts: 3, Name: n})
	}
	return append(l, api.Event{Ts: 3, Name: "a", Vals: make([]api.Val, 9)})
}

// P14.1: N2, events that are not right are nothing, wherever they stand.
func TestBookOfWrongEvents(t *testing.T) {
	right := events("a1.7 a5.7 c9.7 a6.7.8.9 a1099511627776^3#1099511627776.7")
	for _, text := range []string{"a x within 3", "a x+ then a y within 3 pick strict", "a x then not a or c n within 3 by id", "a x then not c n within 3 by v"} {
		q := parsed(t, "seq "+text)
		for _, time := range []int64{-1, 3, 5, 9, most, math.MaxInt64} {
			want, wantSince := book(t, world(), q, right, time)
			all := right
			for _, w := range wrongEvents() {
				for _, l := range [][]api.Event{{w}, {w, w}} {
					if got, since := book(t, world(), q, l, time); len(got) > 0 || since != -1 {
						t.Errorf("%s: %v: %s since %d", text, w, told(got), since)
					}
				}
				all = append([]api.Event{w}, append(all, w)...)
			}
			if got, since := book(t, world(), q, all, time); told(got) != told(want) || since != wantSince {
				t.Errorf("%s up to %d: %s since %d", text, time, told(got), since)
			}
		}
	}
	// The most that an event may be.
	full := api.Event{Ts: most, Depth: 3, Seq: most, Name: strings.Repeat("a", 16)}
	for range 8 {
		full.Vals = append(full.Vals, api.Val{Kind: api.Text, S: strings.Repeat("t", 64)})
	}
	q := parsed(t, "seq "+full.Name+" x within 3")
	if got, _ := book(t, nil, q, []api.Event{full}, most); len(got) != 1 || fmt.Sprint(got[0].Bound) != fmt.Sprint([][]api.Event{{full}}) {
		t.Error(got)
	}
}

// wrongQueries are such as q is, with one thing that may not be.
func wrongQueries(t *testing.T, text string) []api.Query {
	l := []api.Query{{}}
	for _, change := range []func(q *api.Query){
		func(q *api.Query) { q.Items = nil },
		func(q *api.Query) {
			for n := range 6 {
				q.Items = append(q.Items, api.Item{Names: []string{"b"}, Var: "x" + strconv.Itoa(n), Mode: api.Opt})
			}
		},
		func(q *api.Query) { q.Items[0].Not = true },
		func(q *api.Query) { q.Items[0].Mode = api.Opt },
		func(q *api.Query) { q.Items[0].Mode = 0 },
		func(q *api.Query) { q.Items[len(q.Items)-1].Mode = 4 },
		func(q *api.Query) { q.Items[0].Names = nil },
		func(q *api.Query) { q.Items[0].Names = []string{"a", "a"} },
		func(q *api.Query) { q.Items[0].Names = []string{"a", ""} },
		func(q *api.Query) { q.Items[0].Names = []string{"a", "b", "c", "d"} },
		func(q *api.Query) { q.Items[0].Var = "" },
		func(q *api.Query) { q.Items[0].Var = q.Items[1].Var },
		func(q *api.Query) { q.Preds = []api.Pred{{}} },
		func(q *api.Query) { q.Within = -1 },
		func(q *api.Query) { q.Within = most + 1 },
		func(q *api.Query) { q.By = "A" },
		func(q *api.Query) { q.By = "seq" },
		func(q *api.Query) { q.Pick = 0 },
		func(q *api.Query) { q.Pick = 4 },
	} {
		q := parsed(t, text)
		change(&q)
		l = append(l, q)
	}
	return l
}

// P14.1: N2, nothing and -1 of a query that is not right, whatever came.
func TestBookOfWrongQuery(t *testing.T) {
	many := events(strings.Repeat("a1.7 b2.7.7 a3.7 ", 70))
	for _, text := range []string{"seq a x then b y? within 9", "seq a x+ then not c n within 9 by id"} {
		if got, since := book(t, world(), parsed(t, text), many, 90); len(got) == 0 && since < 0 {
			t.Errorf("%s: nothing", text)
		}
		for i, q := range wrongQueries(t, text) {
			for _, l := range [][]api.Event{many, many[:3], {}, nil, wrongEvents()} {
				for _, time := range []int64{math.MinInt64, -1, 0, 1, 90, math.MaxInt64} {
					if got, since := ledger.Book(world(), q, l, time); tree.Right(q) || len(got) > 0 || since != -1 {
						t.Fatalf("%d: %s since %d", i, told(got), since)
					}
				}
			}
		}
	}
}

// P14.1: N2, schemas say which field parts, and which are asked for: the first of a name.
func TestBookBySchemas(t *testing.T) {
	other := []api.Schema{{Name: "a", Fields: []api.Field{{Name: "v", Kind: api.Int}, {Name: "id", Kind: api.Int}}}}
	q := parsed(t, "seq a x then a y where y.v > 1 within 9 by id")
	l := events("a1.1.2 a2.1.3 a3.2.2")
	for i, c := range []struct {
		schemas []api.Schema
		want    string
	}{
		{world(), "2:a1.1.2/a2.1.3"},
		{other, "3:a1.1.2/a3.2.2"},
		{append(other, world()...), "3:a1.1.2/a3.2.2"},
		{append(world(), other...), "2:a1.1.2/a2.1.3"},
		{world()[1:], ""},
		{[]api.Schema{}, ""},
		{nil, ""},
	} {
		if got, since := book(t, c.schemas, q, l, 9); told(got) != c.want || since != -1 {
			t.Errorf("%d: %s since %d", i, told(got), since)
		}
	}
	// Without By, and without schemas, nothing is asked of the events.
	q.By = ""
	if got, _ := book(t, nil, q, l, 9); told(got) != "2:a1.1.2/a2.1.3, 3:a1.1.2/a3.2.2, 3:a2.1.3/a3.2.2" {
		t.Error(told(got))
	}
}

// P14.1: N2, of thrown queries and events, against the sketch.
func TestThrownBooks(t *testing.T) {
	r := dice(144)
	matches, nothing, degraded := 0, 0, 0
	for range 12000 {
		q := r.query(5)
		l := r.events(r.below(20), 1+r.below(14))
		if r.rarely(8) {
			l = r.mixed(append(l, wrongEvents()[r.below(len(wrongEvents()))], r.event(most)))
		}
		schemas := world()
		if r.rarely(12) {
			schemas = schemas[r.below(3):]
		}
		got, since := book(t, schemas, q, l, int64(r.below(32)-2))
		if t.Failed() {
			t.FailNow()
		}
		matches += len(got)
		if len(got) == 0 {
			nothing++
		}
		if since >= 0 {
			degraded++
		}
	}
	if matches < 10000 || nothing < 1000 || degraded < 100 {
		t.Error("too few", matches, nothing, degraded)
	}
}

// P14.1: what is found is in order, and of no two neither is ahead.
func TestRising(t *testing.T) {
	r := dice(145)
	many := 0
	for range 2000 {
		q := r.query(4)
		l := r.events(2+r.below(16), 8)
		got, _ := ledger.Book(world(), q, l, 20)
		for i := range got[min(1, len(got)):] {
			if many++; !ledger.Less(got[i], got[i+1]) {
				t.Fatalf("%s: %s", tree.Print(q), told(got))
			}
		}
		for _, m := range got {
			for _, row := range m.Bound {
				for i := 1; i < len(row); i++ {
					if event.Less(row[i], row[i-1]) {
						t.Fatalf("%s: %s", tree.Print(q), told(got))
					}
				}
			}
		}
	}
	if many < 3000 {
		t.Error("too few", many)
	}
}
