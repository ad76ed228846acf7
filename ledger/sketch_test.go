package ledger_test

import (
	"fmt"
	"slices"
	"strconv"
	"strings"
	"testing"

	"augury/api"
	"augury/event"
	"augury/ledger"
	"augury/run"
	"augury/tree"
)

// most is the greatest of all times.
const most = api.MaxNum

// world are the schemas that tests ask by: the field id stands first, last, and alone; d has no fields, of e there is no schema.
func world() []api.Schema {
	id, v := api.Field{Name: "id", Kind: api.Int}, api.Field{Name: "v", Kind: api.Int}
	return []api.Schema{
		{Name: "a", Fields: []api.Field{id, v}},
		{Name: "b", Fields: []api.Field{v, id}},
		{Name: "c", Fields: []api.Field{id}},
		{Name: "d"},
	}
}

// parsed is the query of a text.
func parsed(t *testing.T, text string) api.Query {
	t.Helper()
	q, e, at := tree.Parse(text)
	if e != api.OK {
		t.Fatalf("%q: %v at %d", text, e, at)
	}
	return q
}

// num is a number of a text of tests.
func num(s string) int64 {
	n, err := strconv.ParseInt(s, 10, 64)
	if err != nil {
		panic(err)
	}
	return n
}

// val is the value of a text: T and F are truths, what begins with a quote is a text, all else a number.
func val(s string) api.Val {
	switch {
	case s == "T":
		return api.Val{Kind: api.Bool, N: 1}
	case s == "F":
		return api.Val{Kind: api.Bool}
	case s[0] == '\'':
		return api.Val{Kind: api.Text, S: s[1:]}
	}
	return api.Val{Kind: api.Int, N: num(s)}
}

// one is the event of a text: its name, of one letter, its time, then its depth behind `^`, and its number behind `#`, if they are not 0, and behind points its values: `a3`, `b3#2.7.'u`, `c-1^1#4.T`.
func one(s string) api.Event {
	e := api.Event{Name: s[:1]}
	for i, w := range strings.Split(s[1:], ".") {
		if i > 0 {
			e.Vals = append(e.Vals, val(w))
			continue
		}
		at, seq, is := strings.Cut(w, "#")
		if is {
			e.Seq = num(seq)
		}
		at, depth, is := strings.Cut(at, "^")
		if is {
			e.Depth = int(num(depth))
		}
		e.Ts = num(at)
	}
	return e
}

// events are those of a text.
func events(s string) []api.Event {
	var l []api.Event
	for _, w := range strings.Fields(s) {
		l = append(l, one(w))
	}
	return l
}

// match is that of a text: when it was done, and what is bound, a row between two strokes each: `5:a1 a2//b3`; without a colon it has no rows.
func match(s string) api.Match {
	done, bound, is := strings.Cut(s, ":")
	m := api.Match{Done: num(done)}
	if !is {
		return m
	}
	for _, row := range strings.Split(bound, "/") {
		m.Bound = append(m.Bound, events(row))
	}
	return m
}

// matches are those of a text.
func matches(s string) []api.Match {
	var l []api.Match
	for _, w := range strings.Split(s, ", ") {
		if w != "" {
			l = append(l, match(w))
		}
	}
	return l
}

// toldEvent is an event, as one reads it.
func toldEvent(e api.Event) string {
	s := e.Name + strconv.FormatInt(e.Ts, 10)
	if e.Depth != 0 {
		s += "^" + strconv.Itoa(e.Depth)
	}
	if e.Seq != 0 {
		s += "#" + strconv.FormatInt(e.Seq, 10)
	}
	for _, v := range e.Vals {
		switch v.Kind {
		case api.Bool:
			s += "." + []string{"F", "T"}[v.N]
		case api.Text:
			s += ".'" + v.S
		default:
			s += "." + strconv.FormatInt(v.N, 10)
		}
	}
	return s
}

// told are matches, as matches reads them.
func told(l []api.Match) string {
	var out []string
	for _, m := range l {
		var rows []string
		for _, row := range m.Bound {
			var words []string
			for _, e := range row {
				words = append(words, toldEvent(e))
			}
			rows = append(rows, strings.Join(words, " "))
		}
		s := strconv.FormatInt(m.Done, 10)
		if m.Bound != nil {
			s += ":" + strings.Join(rows, "/")
		}
		out = append(out, s)
	}
	return strings.Join(out, ", ")
}

// sketchPart is what the document's words say of the part of an event.
func sketchPart(l []api.Schema, q api.Query, e api.Event) (api.Val, bool) {
	looked := false
	for _, it := range q.Items {
		for _, name := range it.Names {
			looked = looked || name == e.Name
		}
	}
	if !looked || q.By == "" {
		return api.Val{}, looked
	}
	for _, s := range l {
		if s.Name != e.Name {
			continue
		}
		for at, f := range s.Fields {
			if f.Name == q.By && at < len(e.Vals) {
				return e.Vals[at], true
			} else if f.Name == q.By {
				return api.Val{}, false
			}
		}
		return api.Val{}, false
	}
	return api.Val{}, false
}

// boundAt is the event of a match at a place of a row; false, if there is none.
func boundAt(m api.Match, row, at int) (api.Event, bool) {
	if row >= len(m.Bound) || at >= len(m.Bound[row]) {
		return api.Event{}, false
	}
	return m.Bound[row][at], true
}

// sketchLess is what the document's words say of two matches.
func sketchLess(a, b api.Match) bool {
	if a.Done != b.Done {
		return a.Done < b.Done
	}
	for row := 0; row < len(a.Bound) || row < len(b.Bound); row++ {
		for at := 0; ; at++ {
			x, hasX := boundAt(a, row, at)
			y, hasY := boundAt(b, row, at)
			switch {
			case hasX && hasY && event.Less(x, y), !hasX && hasY:
				return true
			case hasX && hasY && event.Less(y, x), hasX && !hasY:
				return false
			}
			if !hasX && !hasY {
				break
			}
		}
	}
	return false
}

func sketchAlike(a, b api.Match) bool { return !sketchLess(a, b) && !sketchLess(b, a) }

// sketchMinus is what the document's words say of two rows of matches.
func sketchMinus(a, b []api.Match) []api.Match {
	var out []api.Match
	for _, m := range a {
		if !slices.ContainsFunc(b, func(n api.Match) bool { return sketchAlike(m, n) }) {
			out = append(out, m)
		}
	}
	return out
}

// put puts each thing of a list behind all that it is not ahead of.
func put[T any](l []T, less func(a, b T) bool) []T {
	var out []T
	for _, x := range l {
		at := len(out)
		for at > 0 && less(x, out[at-1]) {
			at--
		}
		out = slices.Insert(out, at, x)
	}
	return out
}

// sketchRightEvent is what layer 5's words say of an event.
func sketchRightEvent(e api.Event) bool {
	if e.Ts < 0 || e.Ts > most || e.Seq < 0 || e.Seq > most || e.Depth < 0 || e.Depth > 3 || len(e.Vals) > 8 {
		return false
	}
	for _, v := range e.Vals {
		switch v.Kind {
		case api.Int:
			if v.N < -most || v.N > most || v.S != "" {
				return false
			}
		case api.Text:
			if len(v.S) > 64 || v.N != 0 {
				return false
			}
		case api.Bool:
			if v.N != 0 && v.N != 1 || v.S != "" {
				return false
			}
		default:
			return false
		}
	}
	if e.Name == "" || len(e.Name) > 16 || e.Name[0] < 'a' || e.Name[0] > 'z' {
		return false
	}
	return strings.Trim(e.Name, "abcdefghijklmnopqrstuvwxyz0123456789_") == ""
}

// sketchBook is what the document's words say of a book.
func sketchBook(l []api.Schema, q api.Query, given []api.Event, time int64) ([]api.Match, int64) {
	if !tree.Right(q) {
		return nil, -1
	}
	var come []api.Event
	for _, e := range given {
		if _, is := sketchPart(l, q, e); is && sketchRightEvent(e) && e.Ts <= time {
			come = append(come, e)
		}
	}
	var vals []api.Val
	var runs [][]api.Run
	var found []api.Match
	timeComes := func(time int64) {
		for at := range runs {
			on, m := run.Time(q, runs[at], time)
			runs[at], found = on, append(found, m...)
		}
	}
	since := int64(-1)
	for _, e := range put(come, event.Less) {
		v, _ := sketchPart(l, q, e)
		at := slices.Index(vals, v)
		if at < 0 {
			at, vals, runs = len(vals), append(vals, v), append(runs, nil)
		}
		timeComes(e.Ts - 1)
		on, m := run.Step(l, q, runs[at], e)
		runs[at], found = on, append(found, m...)
		if len(slices.Concat(runs...)) > 64 {
			since = e.Ts
			break
		}
	}
	if since < 0 {
		timeComes(time)
	}
	var out []api.Match
	for _, m := range put(found, sketchLess) {
		if (since < 0 || m.Done < since) && (len(out) == 0 || !sketchAlike(out[len(out)-1], m)) {
			out = append(out, m)
		}
	}
	return out, since
}

// book asks for a book, held against the sketch's; and answers it.
func book(t *testing.T, l []api.Schema, q api.Query, given []api.Event, time int64) ([]api.Match, int64) {
	t.Helper()
	got, since := ledger.Book(l, q, given, time)
	want, wantSince := sketchBook(l, q, given, time)
	if since != wantSince || len(got) != len(want) || fmt.Sprint(got) != fmt.Sprint(want) {
		t.Errorf("%s: %v up to %d\n%s since %d is not\n%s since %d", tree.Print(q), given, time, told(got), since, told(want), wantSince)
	}
	return got, since
}

// dice are numbers that look like thrown ones, the same ones each time.
type dice uint64

func (r *dice) below(n int) int {
	*r = *r*6364136223846793005 + 1442695040888963407
	return int(uint64(*r) >> 33 % uint64(n))
}

// rarely is so once in so many times.
func (r *dice) rarely(n int) bool { return r.below(n) == 0 }

// names are some of a few, no two alike.
func (r *dice) names() []string {
	l := strings.Split("aaabbbcd", "")[r.below(8):]
	return slices.Compact(l[:min(len(l), 1+r.below(api.MaxNames))])
}

var vars = []string{"u", "v", "w", "x", "y", "z"}

// pred is a predicate of variables of l.
func (r *dice) pred(l []string) api.Pred {
	side := func() api.Expr {
		name := l[r.below(len(l))]
		switch r.below(5) {
		case 0:
			return api.Expr{Kind: api.ExCount, Var: name}
		case 1:
			return api.Expr{Kind: api.ExSum + r.below(3), Var: name, Field: "v"}
		case 2, 3:
			return api.Expr{Kind: api.ExField, Var: name, Field: "v"}
		}
		return api.Expr{Kind: api.ExVal, Val: api.Val{Kind: api.Int, N: int64(r.below(4))}}
	}
	return api.Pred{Cmp: api.Eq + r.below(6), L: side(), R: side()}
}

// query is a right one, of at most so many items.
func (r *dice) query(items int) api.Query {
	q := api.Query{Within: int64(r.below(14)), Pick: api.Any + r.below(3)}
	for at := range 1 + r.below(items) {
		it := api.Item{Names: r.names(), Var: vars[at], Mode: api.One + r.below(3)}
		if at == 0 {
			it.Mode = api.One + r.below(2)
		} else if r.rarely(4) {
			it.Not, it.Mode = true, api.One
		}
		q.Items = append(q.Items, it)
	}
	for range r.below(3) / 2 {
		q.Preds = append(q.Preds, r.pred(vars[:1+r.below(len(q.Items))]))
	}
	switch r.below(6) {
	case 0, 1, 2:
		q.By = "id"
	case 3:
		q.By = "v"
	}
	return q
}

// event is a right one, of the names that queries ask for, and of one that no schema has; now and then without its values, or with such of other kinds.
func (r *dice) event(ts int64) api.Event {
	e := api.Event{Ts: ts, Depth: r.below(2) * r.below(4), Seq: int64(r.below(4)), Name: string("aaaabbbbbcde"[r.below(12)])}
	many := map[string]int{"a": 2, "b": 2, "c": 1}[e.Name]
	if r.rarely(12) {
		many = r.below(3)
	}
	for range many {
		v := api.Val{Kind: api.Int, N: int64(r.below(3))}
		if r.rarely(12) {
			v = []api.Val{{Kind: api.Bool, N: 1}, {Kind: api.Text, S: "1"}, {Kind: api.Text}, {Kind: api.Bool}}[r.below(4)]
		}
		e.Vals = append(e.Vals, v)
	}
	return e
}

// events are some, in any order, also such of which neither is ahead.
func (r *dice) events(many, times int) []api.Event {
	var l []api.Event
	for range many {
		l = append(l, r.event(int64(r.below(times))))
	}
	return l
}

// row are events of which of any two one is ahead, in any order.
func (r *dice) row(many, times int) []api.Event {
	l := r.events(many, times)
	for i := range l {
		l[i].Seq = int64(i)
	}
	return r.mixed(l)
}

// mixed are the things of a list in another order.
func (r *dice) mixed(l []api.Event) []api.Event {
	l = slices.Clone(l)
	for i := range l {
		j := i + r.below(len(l)-i)
		l[i], l[j] = l[j], l[i]
	}
	return l
}

// match is one of a few events, with many alike.
func (r *dice) match() api.Match {
	m := api.Match{Done: int64(r.below(2))}
	for range r.below(4) {
		var row []api.Event
		for range r.below(3) {
			e := r.event(int64(r.below(2)))
			e.Depth, e.Seq = e.Depth%2, e.Seq%2
			row = append(row, e)
		}
		m.Bound = append(m.Bound, row)
	}
	return m
}
