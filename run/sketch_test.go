package run_test

import (
	"fmt"
	"slices"
	"strconv"
	"strings"
	"testing"

	"augury/api"
	"augury/eval"
	"augury/run"
	"augury/tree"
)

// most is the greatest of all times.
const most = api.MaxNum

// world are the schemas that tests ask by: of d there are no fields, of e there is no schema.
func world() []api.Schema {
	fields := func() []api.Field {
		return []api.Field{{Name: "v", Kind: api.Int}, {Name: "w", Kind: api.Int}}
	}
	return []api.Schema{{Name: "a", Fields: fields()}, {Name: "b", Fields: fields()}, {Name: "c", Fields: fields()}, {Name: "d"}}
}

// parsed is the query of a text.
func parsed(t *testing.T, text string) api.Query {
	t.Helper()
	q, e, at := tree.Parse(text)
	if e != api.OK {
		t.Fatalf("%q: %v at %d", text, e, at)
	}
	return q
}

// num is a number of a text of tests.
func num(s string) int64 {
	n, err := strconv.ParseInt(s, 10, 64)
	if err != nil {
		panic(err)
	}
	return n
}

// one is the event of a text: its name, of one letter, its time, and, behind points, its numbers: `a3`, `b3.7`, `c-1.7.9`.
func one(s string) api.Event {
	words := strings.Split(s[1:], ".")
	e := api.Event{Ts: num(words[0]), Name: s[:1]}
	for _, w := range words[1:] {
		e.Vals = append(e.Vals, api.Val{Kind: api.Int, N: num(w)})
	}
	return e
}

// stream are the events of a text, each of a number of its own.
func stream(s string) []api.Event {
	var l []api.Event
	for i, w := range strings.Fields(s) {
		e := one(w)
		e.Seq = int64(i)
		l = append(l, e)
	}
	return l
}

// rows are the events that are bound in a text, a row between two strokes each: `a1 a2//b3`.
func rows(s string) [][]api.Event {
	var l [][]api.Event
	for _, row := range strings.Split(s, "/") {
		var events []api.Event
		for _, w := range strings.Fields(row) {
			events = append(events, one(w))
		}
		l = append(l, events)
	}
	return l
}

// runs are those of a text, each its place and what is bound: `0:a1/, 2:a1//b3`.
func runs(s string) []api.Run {
	var l []api.Run
	for _, w := range strings.Split(s, ", ") {
		if w == "" {
			continue
		}
		at, bound, _ := strings.Cut(w, ":")
		l = append(l, api.Run{At: int(num(at)), Bound: rows(bound)})
	}
	return l
}

// tell is what is bound, as rows reads it, behind a number.
func tell(n int64, bound [][]api.Event) string {
	var l []string
	for _, row := range bound {
		var events []string
		for _, e := range row {
			s := e.Name + strconv.FormatInt(e.Ts, 10)
			for _, v := range e.Vals {
				s += "." + strconv.FormatInt(v.N, 10)
			}
			events = append(events, s)
		}
		l = append(l, strings.Join(events, " "))
	}
	return strconv.FormatInt(n, 10) + ":" + strings.Join(l, "/")
}

// toldRuns are runs, as runs reads them.
func toldRuns(l []api.Run) string {
	var out []string
	for _, r := range l {
		out = append(out, tell(int64(r.At), r.Bound))
	}
	return strings.Join(out, ", ")
}

// toldMatches are matches, each when it was done, and what is bound.
func toldMatches(l []api.Match) string {
	var out []string
	for _, m := range l {
		out = append(out, tell(m.Done, m.Bound))
	}
	return strings.Join(out, ", ")
}

// all are all that runs, or matches, say, each a text of its own.
func all[T any](l []T) []string {
	var out []string
	for _, x := range l {
		out = append(out, fmt.Sprint(x))
	}
	return out
}

// sameSet tells whether two lists hold the same, in whichever order, each as often.
func sameSet(a, b []string) bool {
	return slices.Equal(slices.Sorted(slices.Values(a)), slices.Sorted(slices.Values(b)))
}

// sketchState is what layer 12's words say of the state behind an item: what may come next, what must not, and is it Final?
func sketchState(q api.Query, at int) (next, guards []int, final bool) {
	if q.Items[at].Mode == api.Plus {
		next = append(next, at)
	}
	final = true
	ended := false
	for n := at + 1; n < len(q.Items); n++ {
		switch it := q.Items[n]; {
		case it.Not && !ended:
			guards = append(guards, n)
		case !it.Not && !ended:
			next = append(next, n)
		}
		if !q.Items[n].Not && q.Items[n].Mode != api.Opt {
			ended, final = true, false
		}
	}
	return next, guards, final
}

// sketchRight is what the document's words say of a run.
func sketchRight(q api.Query, r api.Run) bool {
	if r.At < 0 || r.At > len(q.Items)-1 {
		return false
	}
	if q.Items[r.At].Not || len(r.Bound) != len(q.Items) {
		return false
	}
	if len(r.Bound[0]) < 1 {
		return false
	}
	began := r.Bound[0][0].Ts
	return 0 <= began && began <= 1<<40
}

func sketchWaits(q api.Query, r api.Run) bool {
	if !tree.Right(q) || !sketchRight(q, r) {
		return false
	}
	_, guards, final := sketchState(q, r.At)
	return final && len(guards) > 0
}

// sketchTime is what the document's words say of a time.
func sketchTime(q api.Query, l []api.Run, time int64) (on []api.Run, found []api.Match) {
	if !tree.Right(q) {
		return nil, nil
	}
	for _, r := range l {
		if !sketchRight(q, r) {
			continue
		}
		began := r.Bound[0][0].Ts
		if time < 0 || began > time-q.Within {
			on = append(on, r)
		} else if sketchWaits(q, r) {
			found = append(found, api.Match{Done: began + q.Within, Bound: r.Bound})
		}
	}
	return on, found
}

// with is what is bound, with an event behind the others of an item.
func with(bound [][]api.Event, at int, e api.Event) [][]api.Event {
	var out [][]api.Event
	for n, row := range bound {
		row = slices.Clone(row)
		if n == at {
			row = append(row, e)
		}
		out = append(out, row)
	}
	return out
}

// sketchFits tells whether an event fits an item, of what is bound.
func sketchFits(l []api.Schema, q api.Query, bound [][]api.Event, at int, e api.Event) bool {
	return slices.Contains(q.Items[at].Names, e.Name) && eval.All(l, q, with(bound, at, e), at)
}

// fitting are those of some items that an event fits.
func fitting(l []api.Schema, q api.Query, bound [][]api.Event, items []int, e api.Event) []int {
	var out []int
	for _, at := range items {
		if sketchFits(l, q, bound, at, e) {
			out = append(out, at)
		}
	}
	return out
}

// sketchTakes is what comes of a run that takes an event by an item.
func sketchTakes(q api.Query, bound [][]api.Event, at int, e api.Event) (on []api.Run, found []api.Match) {
	r := api.Run{At: at, Bound: with(bound, at, e)}
	next, guards, final := sketchState(q, at)
	if final && len(guards) == 0 {
		found = append(found, api.Match{Done: e.Ts, Bound: r.Bound})
	}
	if len(next) > 0 || final && len(guards) > 0 {
		on = append(on, r)
	}
	return on, found
}

// sketchRightEvent is what layer 5's words say of an event.
func sketchRightEvent(e api.Event) bool {
	if e.Ts < 0 || e.Ts > most || e.Seq < 0 || e.Seq > most || e.Depth < 0 || e.Depth > 3 || len(e.Vals) > 8 {
		return false
	}
	for _, v := range e.Vals {
		switch v.Kind {
		case api.Int:
			if v.N < -most || v.N > most || v.S != "" {
				return false
			}
		case api.Text:
			if len(v.S) > 64 || v.N != 0 {
				return false
			}
		case api.Bool:
			if v.N != 0 && v.N != 1 || v.S != "" {
				return false
			}
		default:
			return false
		}
	}
	if e.Name == "" || len(e.Name) > 16 || e.Name[0] < 'a' || e.Name[0] > 'z' {
		return false
	}
	return strings.Trim(e.Name, "abcdefghijklmnopqrstuvwxyz0123456789_") == ""
}

// sketchStep is what the document's words say of an event.
func sketchStep(l []api.Schema, q api.Query, runs []api.Run, e api.Event) (on []api.Run, found []api.Match) {
	if !tree.Right(q) {
		return nil, nil
	}
	if !sketchRightEvent(e) {
		return sketchTime(q, runs, -1)
	}
	runs, found = sketchTime(q, runs, e.Ts-1)
	looked := false
	for _, it := range q.Items {
		looked = looked || slices.Contains(it.Names, e.Name)
	}
	if !looked {
		return runs, found
	}
	add := func(bound [][]api.Event, at int) {
		o, f := sketchTakes(q, bound, at, e)
		on, found = append(on, o...), append(found, f...)
	}
	for _, r := range runs {
		next, guards, _ := sketchState(q, r.At)
		if len(fitting(l, q, r.Bound, guards, e)) > 0 {
			continue
		}
		takers := fitting(l, q, r.Bound, next, e)
		switch {
		case q.Pick == api.Any:
			on = append(on, r)
			for _, at := range takers {
				add(r.Bound, at)
			}
		case len(takers) > 0:
			add(r.Bound, takers[0])
		case q.Pick == api.Next || sketchWaits(q, r):
			on = append(on, r)
		}
	}
	if nothing := make([][]api.Event, len(q.Items)); sketchFits(l, q, nothing, 0, e) {
		add(nothing, 0)
	}
	return on, found
}

// found is what a query finds of events, one by one, and then of a time.
func found(l []api.Schema, q api.Query, events []api.Event, time int64) []api.Match {
	var runs []api.Run
	var m, out []api.Match
	for _, e := range events {
		runs, m = run.Step(l, q, runs, e)
		out = append(out, m...)
	}
	_, m = run.Time(q, runs, time)
	return append(out, m...)
}

// steps asks for one step, held against the sketch's; and answers it.
func steps(t *testing.T, l []api.Schema, q api.Query, runs []api.Run, e api.Event) ([]api.Run, []api.Match) {
	t.Helper()
	on, found := run.Step(l, q, runs, e)
	wantOn, wantFound := sketchStep(l, q, runs, e)
	if !slices.Equal(all(on), all(wantOn)) || !slices.Equal(all(found), all(wantFound)) {
		t.Errorf("%s: %v of %v\n%v\n%v are not\n%v\n%v", tree.Print(q), e, runs, on, found, wantOn, wantFound)
	}
	return on, found
}

// times asks for one time, held against the sketch's; and answers it.
func times(t *testing.T, q api.Query, runs []api.Run, time int64) ([]api.Run, []api.Match) {
	t.Helper()
	on, found := run.Time(q, runs, time)
	wantOn, wantFound := sketchTime(q, runs, time)
	if !slices.Equal(all(on), all(wantOn)) || !slices.Equal(all(found), all(wantFound)) {
		t.Errorf("%s: %d of %v\n%v\n%v are not\n%v\n%v", tree.Print(q), time, runs, on, found, wantOn, wantFound)
	}
	return on, found
}

// dice are numbers that look like thrown ones, the same ones each time.
type dice uint64

func (r *dice) below(n int) int {
	*r = *r*6364136223846793005 + 1442695040888963407
	return int(uint64(*r) >> 33 % uint64(n))
}

// rarely is so once in so many times.
func (r *dice) rarely(n int) bool { return r.below(n) == 0 }

// names are some of a few, no two alike.
func (r *dice) names() []string {
	l := strings.Split("abcd", "")
	from := r.below(len(l))
	l = append(l[from:], l[:from]...)
	return l[:1+r.below(1+r.below(api.MaxNames))]
}

var vars = []string{"u", "v", "w", "x", "y", "z"}

// expr is an expression of variables of l.
func (r *dice) expr(l []string) api.Expr {
	name := l[r.below(len(l))]
	field := "v"
	if r.rarely(6) {
		field = "w"
	}
	switch r.below(9) {
	case 0:
		return api.Expr{Kind: api.ExCount, Var: name}
	case 1:
		return api.Expr{Kind: api.ExSum + r.below(3), Var: name, Field: field}
	case 2:
		return api.Expr{Kind: api.ExAdd + r.below(2), Kids: []api.Expr{{Kind: api.ExField, Var: name, Field: field}, {Kind: api.ExVal, Val: api.Val{Kind: api.Int, N: 1}}}}
	case 3, 4, 5:
		return api.Expr{Kind: api.ExVal, Val: api.Val{Kind: api.Int, N: int64(r.below(4))}}
	}
	return api.Expr{Kind: api.ExField, Var: name, Field: field}
}

// query is a right one, of at most so many items.
func (r *dice) query(items int) api.Query {
	q := api.Query{Within: int64(r.below(9)), Pick: api.Any + r.below(3)}
	for at := range 1 + r.below(items) {
		it := api.Item{Names: r.names(), Var: vars[at], Mode: api.One + r.below(3)}
		if at == 0 {
			it.Mode = api.One + r.below(2)
		} else if r.rarely(3) {
			it.Not, it.Mode = true, api.One
		}
		q.Items = append(q.Items, it)
	}
	for range r.below(3) {
		named := vars[:1+r.below(len(q.Items))]
		q.Preds = append(q.Preds, api.Pred{Cmp: api.Eq + r.below(6), L: r.expr(named), R: r.expr(named)})
	}
	if r.rarely(4) {
		q.By = "v"
	}
	return q
}

// event is a right one, of the names that queries ask for, and of one that no schema has; now and then without its Vals.
func (r *dice) event(ts int64) api.Event {
	e := api.Event{Ts: ts, Depth: r.below(4), Seq: int64(r.below(100)), Name: string("aaabbbcccdde"[r.below(12)])}
	if e.Name < "d" && !r.rarely(6) {
		for range 2 {
			e.Vals = append(e.Vals, api.Val{Kind: api.Int, N: int64(r.below(4))})
		}
	}
	return e
}

// events are some, whose times rise, or stay.
func (r *dice) events(many int) []api.Event {
	var l []api.Event
	ts := int64(r.below(3))
	for n := range many {
		e := r.event(ts)
		e.Depth, e.Seq = 0, int64(n)
		l = append(l, e)
		ts += int64(r.below(3))
	}
	return l
}

// run is one of a query, right or, now and then, not.
func (r *dice) run(q api.Query) api.Run {
	out := api.Run{At: r.below(len(q.Items)), Bound: make([][]api.Event, len(q.Items))}
	for q.Items[out.At].Not {
		out.At--
	}
	for at := range out.Bound {
		for range []int{0, 1, 1, 2}[r.below(4)] {
			out.Bound[at] = append(out.Bound[at], r.event(int64(r.below(12))))
		}
	}
	if len(out.Bound[0]) == 0 {
		out.Bound[0] = []api.Event{r.event(int64(r.below(12)))}
	}
	switch r.below(24) {
	case 0:
		out.At = []int{-1, -2, len(q.Items), len(q.Items) + 1}[r.below(4)]
	case 1:
		out.At = r.below(len(q.Items))
	case 2:
		out.Bound = append(out.Bound, nil)
	case 3:
		out.Bound = out.Bound[:len(out.Bound)-1]
	case 4:
		out.Bound[0] = nil
	case 5:
		out.Bound[0][0].Ts = []int64{-1, 0, most, most + 1}[r.below(4)]
	}
	return out
}

// runs are some of a query.
func (r *dice) runs(q api.Query, many int) []api.Run {
	var l []api.Run
	for range r.below(many + 1) {
		l = append(l, r.run(q))
	}
	return l
}
