package run_test

import (
	"slices"
	"strconv"
	"testing"

	"augury/api"
	"augury/eval"
	"augury/run"
	"augury/tree"
)

// rowsOfEvents are queries, events, and what is found of these up to a time, if any, the next, and strictly is picked.
var rowsOfEvents = []struct {
	query, events     string
	time              int64
	any, next, strict string
}{
	// The document's example.
	{"a x then b y within 5", "a1 b2 b3", 90, "2:a1/b2, 3:a1/b3", "2:a1/b2", "2:a1/b2"},
	// One behind another one, and with others between.
	{"a x then b y within 5", "b1 a2 c3 b4", 90, "4:a2/b4", "4:a2/b4", "4:a2/b4"},
	{"a x then b y then c z within 5", "a1 b2 b3 c4", 90, "4:a1/b3/c4, 4:a1/b2/c4", "4:a1/b2/c4", ""},
	{"a x then b y then c z within 5", "a1 c2 b3 c4", 90, "4:a1/b3/c4", "4:a1/b3/c4", ""},
	{"a x then a y within 5", "a1 a2 a3", 90, "2:a1/a2, 3:a1/a3, 3:a2/a3", "2:a1/a2, 3:a2/a3", "2:a1/a2, 3:a2/a3"},
	// Within its time, and behind it.
	{"a x then b y within 3", "a1 a2 b4 b5", 90, "4:a1/b4, 4:a2/b4, 5:a2/b5", "4:a1/b4, 4:a2/b4", "4:a2/b4"},
	{"a x then b y within 0", "a1 b1 b2", 90, "1:a1/b1", "1:a1/b1", "1:a1/b1"},
	// Some of one item.
	{"a x+ then b y within 9", "a1 a2 b3", 90, "3:a1/b3, 3:a1 a2/b3, 3:a2/b3", "3:a1 a2/b3, 3:a2/b3", "3:a1 a2/b3, 3:a2/b3"},
	{"a x+ within 9", "a1 a2 a3", 90, "1:a1, 2:a1 a2, 2:a2, 3:a1 a3, 3:a1 a2 a3, 3:a2 a3, 3:a3", "1:a1, 2:a1 a2, 2:a2, 3:a1 a2 a3, 3:a2 a3, 3:a3", "1:a1, 2:a1 a2, 2:a2, 3:a1 a2 a3, 3:a2 a3, 3:a3"},
	{"a x then b y+ within 9", "a1 b2 b3", 90, "2:a1/b2, 3:a1/b3, 3:a1/b2 b3", "2:a1/b2, 3:a1/b2 b3", "2:a1/b2, 3:a1/b2 b3"},
	{"a x then b y+ within 9 by v", "a1 b2 a3 b4", 90, "2:a1/b2, 4:a1/b4, 4:a1/b2 b4, 4:a3/b4", "2:a1/b2, 4:a1/b2 b4, 4:a3/b4", "2:a1/b2, 4:a3/b4"},
	// What may be left out.
	{"a x then b y? then c z within 9", "a1 b2 c3", 90, "3:a1//c3, 3:a1/b2/c3", "3:a1/b2/c3", "3:a1/b2/c3"},
	{"a x then b y? within 9", "a1 b2", 90, "1:a1/, 2:a1/b2", "1:a1/, 2:a1/b2", "1:a1/, 2:a1/b2"},
	// What must not come.
	{"a x then not c n then b y within 9", "a1 c2 b3 a4 b5", 90, "5:a4//b5", "5:a4//b5", "5:a4//b5"},
	{"a x then not c n then b y within 9", "a1 b2 c3 b4", 90, "2:a1//b2", "2:a1//b2", "2:a1//b2"},
	{"a x then not c n within 3", "a1", 4, "4:a1/", "4:a1/", "4:a1/"},
	{"a x then not c n within 3", "a1", 3, "", "", ""},
	{"a x then not c n within 3", "a1 c4", 90, "", "", ""},
	{"a x then not c n within 3", "a1 c5", 90, "4:a1/", "4:a1/", "4:a1/"},
	{"a x then not c n within 3", "a1 a2 c5", 90, "4:a1/", "4:a1/", "4:a1/"},
	{"a x then b y? then not c n within 3", "a1 b2", 90, "4:a1//, 4:a1/b2/", "4:a1/b2/", "4:a1/b2/"},
	{"a x then not c n then b y? within 3", "a1 b2", 90, "2:a1//b2, 4:a1//", "2:a1//b2", "2:a1//b2"},
	{"a x then not c n then b y? within 3", "a1 c2 b3", 90, "", "", ""},
	{"a x then b y then not c n then d z? within 5", "a1 b2 b3 d4", 90, "4:a1/b3//d4, 4:a1/b2//d4, 6:a1/b3//, 6:a1/b2//", "4:a1/b2//d4", "4:a1/b2//d4"},
	// By predicates.
	{"a x then b y where y.v > x.v within 9", "a1.3 b2.3 b3.4", 90, "3:a1.3/b3.4", "3:a1.3/b3.4", ""},
	{"a x then b y where y.v > x.v within 9", "a1.3 a2.2 b3.3", 90, "3:a2.2/b3.3", "3:a2.2/b3.3", "3:a2.2/b3.3"},
	{"a x+ then b y where sum(x.v) = y.v within 9", "a1.1 a2.2 b3.3 b4.2", 90, "3:a1.1 a2.2/b3.3, 4:a2.2/b4.2", "3:a1.1 a2.2/b3.3, 4:a2.2/b4.2", "3:a1.1 a2.2/b3.3"},
	{"a x then not c n then b y where n.v = x.v within 9", "a1.3 a2.4 c3.4 b4", 90, "4:a1.3//b4", "4:a1.3//b4", ""},
	// Events of one time.
	{"a x then b y within 0", "a3 b3 a3 b3", 90, "3:a3/b3, 3:a3/b3, 3:a3/b3", "3:a3/b3, 3:a3/b3", "3:a3/b3, 3:a3/b3"},
	// One that is earlier than what was there.
	{"a x then b y within 2", "a5 b1", 90, "1:a5/b1", "1:a5/b1", "1:a5/b1"},
	// Nothing.
	{"a x then b y within 5", "", 90, "", "", ""},
	{"a x then b y within 5", "b1 c2 d3", 90, "", "", ""},
}

// P13.1: M2 and M3 together, of rows of events.
func TestRows(t *testing.T) {
	for i, c := range rowsOfEvents {
		for pick, want := range map[string]string{"any": c.any, "next": c.next, "strict": c.strict} {
			q := parsed(t, "seq "+c.query+" pick "+pick)
			if got := toldMatches(found(world(), q, stream(c.events), c.time)); got != want {
				t.Errorf("%d: %s: %s", i, pick, got)
			}
		}
	}
}

// life is all that becomes of one run, as the document's words say it: from what is behind it on, to the end.
type life struct {
	l    []api.Schema
	q    api.Query
	time int64
	out  []api.Match
}

// takes goes on with a run that takes the first of some events.
func (f *life) takes(bound [][]api.Event, at int, events []api.Event) {
	bound = with(bound, at, events[0])
	next, guards, final := sketchState(f.q, at)
	if final && len(guards) == 0 {
		f.out = append(f.out, api.Match{Done: events[0].Ts, Bound: bound})
	}
	if len(next) > 0 || final && len(guards) > 0 {
		f.goes(bound, at, events[1:])
	}
}

// goes goes on with a run, of the events that are still to come.
func (f *life) goes(bound [][]api.Event, at int, events []api.Event) {
	end := bound[0][0].Ts + f.q.Within
	next, guards, final := sketchState(f.q, at)
	waits := final && len(guards) > 0
	for n, e := range events {
		if e.Ts > 0 && end < e.Ts {
			break
		}
		if !run.Names(f.q, e.Name) {
			continue
		}
		if len(fitting(f.l, f.q, bound, guards, e)) > 0 {
			return
		}
		takers := fitting(f.l, f.q, bound, next, e)
		if f.q.Pick != api.Any && len(takers) > 1 {
			takers = takers[:1]
		}
		for _, to := range takers {
			f.takes(bound, to, events[n:])
		}
		if f.q.Pick != api.Any && len(takers) > 0 || f.q.Pick == api.Strict && !waits {
			return
		}
	}
	last := f.time
	if len(events) > 0 {
		last = max(last, events[len(events)-1].Ts-1)
	}
	if waits && end <= last {
		f.out = append(f.out, api.Match{Done: end, Bound: bound})
	}
}

// lives are all matches of rising events, and a time, run by run.
func lives(l []api.Schema, q api.Query, events []api.Event, time int64) []api.Match {
	f := life{l: l, q: q, time: time}
	for n, e := range events {
		if nothing := make([][]api.Event, len(q.Items)); sketchFits(l, q, nothing, 0, e) {
			f.takes(nothing, 0, events[n:])
		}
	}
	return f.out
}

// P13.1: of rows of thrown events, whatever is picked: all is found that the lives of all runs say, and no more.
func TestLives(t *testing.T) {
	r := dice(135)
	many := map[int]int{}
	for range 15000 {
		q := r.query(5)
		events := r.events(r.below(9))
		time := int64(r.below(30) - 1)
		if len(events) > 0 {
			time = max(time, events[len(events)-1].Ts)
		}
		got, want := found(world(), q, events, time), lives(world(), q, events, time)
		if !sameSet(all(got), all(want)) {
			t.Fatalf("%s: %v at %d\n%s are not\n%s", tree.Print(q), events, time, toldMatches(got), toldMatches(want))
		}
		many[q.Pick] += len(got)
	}
	if min(many[api.Any], many[api.Next], many[api.Strict]) < 2000 {
		t.Error("too few", many)
	}
}

// way is which events, by their places, are taken by which items, one behind the other.
type way struct{ events, items []int }

// follows tells whether an item may be taken behind another one: all between may be left out.
func follows(q api.Query, from, to int) bool {
	if q.Items[to].Not || to < from || to == from && q.Items[to].Mode != api.Plus {
		return false
	}
	for between := from + 1; between < to; between++ {
		if it := q.Items[between]; !it.Not && it.Mode != api.Opt {
			return false
		}
	}
	return true
}

// mustNot are the Nots that stand behind an item, up to the next item that must come.
func mustNot(q api.Query, from int) []int {
	var l []int
	for n := from + 1; n < len(q.Items); n++ {
		if q.Items[n].Not {
			l = append(l, n)
		} else if q.Items[n].Mode != api.Opt {
			break
		}
	}
	return l
}

// wayFinds tells whether a way is a match, if any is picked, and of which end: it asks all that must be so of it.
func wayFinds(l []api.Schema, q api.Query, events []api.Event, time int64, w way) (api.Match, bool) {
	first := events[w.events[0]]
	end := first.Ts + q.Within
	bound := make([][]api.Event, len(q.Items))
	for k, item := range w.items {
		e := events[w.events[k]]
		if k == 0 && item != 0 || k > 0 && !follows(q, w.items[k-1], item) || e.Ts > end || !sketchFits(l, q, bound, item, e) {
			return api.Match{}, false
		}
		bound = with(bound, item, e)
		to := len(events) - 1
		if k+1 < len(w.items) {
			to = w.events[k+1]
		} else if !ends(q, item) {
			return api.Match{}, false
		}
		for n := w.events[k] + 1; n <= to; n++ {
			if events[n].Ts <= end && len(fitting(l, q, bound, mustNot(q, item), events[n])) > 0 {
				return api.Match{}, false
			}
		}
	}
	last := len(w.items) - 1
	if len(mustNot(q, w.items[last])) > 0 {
		return api.Match{Done: end, Bound: bound}, end <= time
	}
	return api.Match{Done: events[w.events[last]].Ts, Bound: bound}, true
}

// ends tells whether nothing must come behind an item.
func ends(q api.Query, item int) bool {
	return !slices.ContainsFunc(q.Items[item+1:], func(it api.Item) bool { return !it.Not && it.Mode != api.Opt })
}

// ways are all ways of so many events and items.
func ways(events, items int) []way {
	l := []way{{}}
	for at := 0; at < len(l); at++ {
		next, item := 0, 0
		if k := len(l[at].events); k > 0 {
			next, item = l[at].events[k-1]+1, l[at].items[k-1]
		}
		for e := next; e < events; e++ {
			for i := item; i < items; i++ {
				l = append(l, way{append(slices.Clone(l[at].events), e), append(slices.Clone(l[at].items), i)})
			}
		}
	}
	return l[1:]
}

// P13.1: if any is picked, just the ways are found of which all is so that must be.
func TestWays(t *testing.T) {
	r := dice(136)
	many := 0
	for range 4000 {
		q := r.query(4)
		q.Pick = api.Any
		events := r.events(r.below(6))
		time := int64(r.below(30))
		if len(events) > 0 {
			time = max(time, events[len(events)-1].Ts)
		}
		var want []api.Match
		for _, w := range ways(len(events), len(q.Items)) {
			if m, is := wayFinds(world(), q, events, time, w); is {
				want = append(want, m)
			}
		}
		got := found(world(), q, events, time)
		if !sameSet(all(got), all(want)) {
			t.Fatalf("%s: %v at %d\n%s are not\n%s", tree.Print(q), events, time, toldMatches(got), toldMatches(want))
		}
		many += len(got)
	}
	if many < 1000 {
		t.Error("too few", many)
	}
}

// so asks of a match that all is so that P13.2 says: of events that rise, each of a Seq of its own.
func so(t *testing.T, l []api.Schema, q api.Query, m api.Match) {
	t.Helper()
	fails := len(m.Bound) != len(q.Items) || len(m.Bound[0]) == 0
	var before []api.Event
	for at, row := range m.Bound {
		for n, e := range row {
			part := slices.Clone(m.Bound[:at+1])
			part[at] = row[:n+1]
			fails = fails || !slices.Contains(q.Items[at].Names, e.Name) || !eval.All(l, q, part, at)
		}
		many := len(row)
		fails = fails || q.Items[at].Not && many > 0 || q.Items[at].Mode != api.Plus && many > 1
		fails = fails || !q.Items[at].Not && q.Items[at].Mode != api.Opt && many == 0
		before = append(before, row...)
	}
	for n, e := range before {
		fails = fails || e.Ts < before[0].Ts || e.Ts > m.Done || n > 0 && e.Seq <= before[n-1].Seq
	}
	if fails || m.Done > before[0].Ts+q.Within || m.Done != before[0].Ts+q.Within && m.Done != before[len(before)-1].Ts {
		t.Errorf("%s: %s", tree.Print(q), toldMatches([]api.Match{m}))
	}
}

// P13.2: all that is found is so: of the rows of the table.
func TestRowsAreSo(t *testing.T) {
	for _, c := range rowsOfEvents {
		for _, pick := range []string{"any", "next", "strict"} {
			q := parsed(t, "seq "+c.query+" pick "+pick)
			if c.events == "a5 b1" {
				continue // these do not rise
			}
			for _, m := range found(world(), q, stream(c.events), c.time) {
				so(t, world(), q, m)
			}
		}
	}
}

// P13.2: of thrown events, and of what goes on, too, all is so that is there yet.
func TestAllIsSo(t *testing.T) {
	r := dice(137)
	many, waited := 0, 0
	for range 10000 {
		q := r.query(6)
		events := r.events(r.below(11))
		var on []api.Run
		var m []api.Match
		for _, e := range events {
			on, m = run.Step(world(), q, on, e)
			for _, one := range m {
				so(t, world(), q, one)
				if one.Done < e.Ts {
					waited++
				}
			}
			many += len(m)
			for _, one := range on {
				if at := run.First(one); at > e.Ts || at+q.Within < e.Ts || one.At < 0 || q.Items[one.At].Not || len(one.Bound[one.At]) == 0 || slices.ContainsFunc(one.Bound[one.At+1:], func(row []api.Event) bool { return len(row) > 0 }) {
					t.Errorf("%s: %s at %d", tree.Print(q), toldRuns(on), e.Ts)
				}
			}
		}
		on, m = run.Time(q, on, 90)
		for _, one := range m {
			so(t, world(), q, one)
		}
		if len(on) > 0 || t.Failed() {
			t.Fatalf("%s: %v: %s", tree.Print(q), events, toldRuns(on))
		}
	}
	if many < 5000 || waited < 500 {
		t.Error("too few", many, waited)
	}
}

// P13.2: predicates hold of each beginning of what a Plus takes, and at each time one more is asked.
func TestPlusHolds(t *testing.T) {
	for preds, want := range map[string]string{
		"sum(y.v) < 4":                   "2:a1.2/b2.1, 3:a1.2/b2.1 b3.2",
		"y.v < 4":                        "2:a1.2/b2.1, 3:a1.2/b2.1 b3.2, 4:a1.2/b2.1 b3.2 b4.3",
		"count(y) < 2":                   "2:a1.2/b2.1",
		"max(y.v) <= x.v":                "2:a1.2/b2.1, 3:a1.2/b2.1 b3.2",
		"min(y.v) = 1":                   "2:a1.2/b2.1, 3:a1.2/b2.1 b3.2, 4:a1.2/b2.1 b3.2 b4.3",
		"min(y.v) = 2":                   "3:a1.2/b3.2, 4:a1.2/b3.2 b4.3",
		"count(y) = 2":                   "",
		"y.v = count(y)":                 "2:a1.2/b2.1, 3:a1.2/b2.1 b3.2, 4:a1.2/b2.1 b3.2 b4.3",
		"y.v = x.v and y.v > 1":          "3:a1.2/b3.2",
		"count(y) < 3 and sum(y.v) != 3": "2:a1.2/b2.1, 4:a1.2/b2.1 b4.3",
	} {
		q := parsed(t, "seq a x then b y+ where "+preds+" within 9 pick next")
		if got := toldMatches(found(world(), q, stream("a1.2 b2.1 b3.2 b4.3"), 90)); got != want {
			t.Errorf("%s: %s", preds, got)
		}
	}
}

// P13.1: events of which there are many, and runs that double with each, if any is picked.
func TestMany(t *testing.T) {
	const many = 10
	var s string
	for n := range many {
		s += " a" + strconv.Itoa(n)
	}
	for _, c := range []struct {
		query string
		want  int
	}{{"a x+ within 99", 1<<many - 1}, {"a x+ within 99 pick next", many * (many + 1) / 2}, {"a x then a y within 99", many * (many - 1) / 2}, {"a x then a y within 1", many - 1}, {"a x within 0", many}} {
		q := parsed(t, "seq "+c.query)
		if l := found(world(), q, stream(s), 0); len(l) != c.want {
			t.Errorf("%s: %d", c.query, len(l))
		}
	}
}
