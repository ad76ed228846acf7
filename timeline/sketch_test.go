package timeline_test

import (
	"fmt"
	"slices"
	"strconv"
	"strings"
	"testing"

	"augury/api"
	"augury/ledger"
	"augury/timeline"
	"augury/tree"
)

// most is the greatest of all times.
const most = api.MaxNum

// world are the schemas that tests ask by: the field id stands first, last, and alone; d has no fields, of e there is no schema.
func world() []api.Schema {
	id, v := api.Field{Name: "id", Kind: api.Int}, api.Field{Name: "v", Kind: api.Int}
	return []api.Schema{
		{Name: "a", Fields: []api.Field{id, v}},
		{Name: "b", Fields: []api.Field{v, id}},
		{Name: "c", Fields: []api.Field{id}},
		{Name: "d"},
	}
}

// parsed is the query of a text.
func parsed(t *testing.T, text string) api.Query {
	t.Helper()
	q, e, at := tree.Parse(text)
	if e != api.OK {
		t.Fatalf("%q: %v at %d", text, e, at)
	}
	return q
}

// num is a number of a text of tests.
func num(s string) int64 {
	n, err := strconv.ParseInt(s, 10, 64)
	if err != nil {
		panic(err)
	}
	return n
}

// val is the value of a text: T and F are truths, what begins with a quote is a text, all else a number.
func val(s string) api.Val {
	switch {
	case s == "T":
		return api.Val{Kind: api.Bool, N: 1}
	case s == "F":
		return api.Val{Kind: api.Bool}
	case s[0] == '\'':
		return api.Val{Kind: api.Text, S: s[1:]}
	}
	return api.Val{Kind: api.Int, N: num(s)}
}

// one is the event of a text: its name, of one letter, its time, then its depth behind `^`, and its number behind `#`, if they are not 0, and behind points its values: `a3`, `b3#2.7.'u`, `c-1^1#4.T`.
func one(s string) api.Event {
	e := api.Event{Name: s[:1]}
	for i, w := range strings.Split(s[1:], ".") {
		if i > 0 {
			e.Vals = append(e.Vals, val(w))
			continue
		}
		at, seq, is := strings.Cut(w, "#")
		if is {
			e.Seq = num(seq)
		}
		at, depth, is := strings.Cut(at, "^")
		if is {
			e.Depth = int(num(depth))
		}
		e.Ts = num(at)
	}
	return e
}

// events are those of a text.
func events(s string) []api.Event {
	var l []api.Event
	for _, w := range strings.Fields(s) {
		l = append(l, one(w))
	}
	return l
}

// toldEvent is an event, as one reads it.
func toldEvent(e api.Event) string {
	s := e.Name + strconv.FormatInt(e.Ts, 10)
	if e.Depth != 0 {
		s += "^" + strconv.Itoa(e.Depth)
	}
	if e.Seq != 0 {
		s += "#" + strconv.FormatInt(e.Seq, 10)
	}
	for _, v := range e.Vals {
		switch v.Kind {
		case api.Bool:
			s += "." + []string{"F", "T"}[v.N]
		case api.Text:
			s += ".'" + v.S
		default:
			s += "." + strconv.FormatInt(v.N, 10)
		}
	}
	return s
}

// told are matches, as one reads them: when each was done, and what is bound, row by row: `5:a1 a2//b3`.
func told(l []api.Match) string {
	var out []string
	for _, m := range l {
		var rows []string
		for _, row := range m.Bound {
			var words []string
			for _, e := range row {
				words = append(words, toldEvent(e))
			}
			rows = append(rows, strings.Join(words, " "))
		}
		s := strconv.FormatInt(m.Done, 10)
		if m.Bound != nil {
			s += ":" + strings.Join(rows, "/")
		}
		out = append(out, s)
	}
	return strings.Join(out, ", ")
}

// drop is that of a time.
func drop(from int64) api.Version { return api.Version{From: from, Drop: true} }

// version is that of a text: when it begins, and its query, without `seq`, or `drop`: `5 a x within 3`, `9 drop`.
func version(t *testing.T, s string) api.Version {
	t.Helper()
	from, text, _ := strings.Cut(s, " ")
	if text == "drop" {
		return drop(num(from))
	}
	return api.Version{From: num(from), Query: parsed(t, "seq "+text)}
}

// versions are those of a text, with ` | ` between.
func versions(t *testing.T, s string) []api.Version {
	t.Helper()
	var l []api.Version
	for _, w := range strings.Split(s, " | ") {
		if w != "" {
			l = append(l, version(t, w))
		}
	}
	return l
}

// begins are versions that begin at times, each of the same query, with `-` ahead a Drop: `0 4 -7 9`.
func begins(t *testing.T, s string) []api.Version {
	t.Helper()
	var l []api.Version
	for _, w := range strings.Fields(s) {
		if from, is := strings.CutPrefix(w, "-"); is {
			l = append(l, drop(num(from)))
		} else {
			l = append(l, version(t, w+" a x within 5"))
		}
	}
	return l
}

// toldVersions are versions, as begins reads them, whatever their queries are.
func toldVersions(l []api.Version) string {
	var out []string
	for _, v := range l {
		s := strconv.FormatInt(v.From, 10)
		if v.Drop {
			s = "-" + s
		}
		out = append(out, s)
	}
	return strings.Join(out, " ")
}

// alike tells whether two lists of versions say the same.
func alike(a, b []api.Version) bool { return fmt.Sprint(a) == fmt.Sprint(b) }

// sketchRightVersion is what the document's words say of a version.
func sketchRightVersion(v api.Version) bool {
	q := v.Query
	zero := len(q.Items)+len(q.Preds)+len(q.By) == 0 && q.Within == 0 && q.Pick == 0
	return v.From >= 0 && v.From <= most && (v.Drop && zero || !v.Drop && tree.Right(q))
}

// sketchRight is what the document's words say of versions.
func sketchRight(l []api.Version) bool {
	is := len(l) <= 8
	for i, v := range l {
		is = is && sketchRightVersion(v)
		if i == 0 {
			is = is && !v.Drop
		} else {
			is = is && l[i-1].From < v.From && !(l[i-1].Drop && v.Drop)
		}
	}
	return is
}

// sketchPut is what the document's words say of one more.
func sketchPut(l []api.Version, v api.Version) ([]api.Version, api.Errno) {
	if !sketchRight(l) || !sketchRightVersion(v) {
		return nil, api.ErrArg
	}
	var below []api.Version
	for _, w := range l {
		if w.From < v.From {
			below = append(below, w)
		}
	}
	if v.Drop && (len(below) == 0 || below[len(below)-1].Drop) {
		return l, api.ErrNone
	}
	if len(below)+1 > 8 {
		return l, api.ErrTooMany
	}
	return append(below, v), api.OK
}

// sketchBack is what the document's words say of one less.
func sketchBack(l []api.Version) ([]api.Version, api.Errno) {
	switch {
	case !sketchRight(l):
		return nil, api.ErrArg
	case len(l) < 2:
		return l, api.ErrNone
	}
	return l[:len(l)-1], api.OK
}

// sketchSpans are what the document's words say of how long each is in force.
func sketchSpans(l []api.Version) []api.Span {
	var out []api.Span
	if !sketchRight(l) {
		return out
	}
	for i, v := range l {
		to := int64(most + 1)
		for _, w := range l {
			if w.From > v.From {
				to = min(to, w.From)
			}
		}
		if !v.Drop {
			out = append(out, api.Span{At: i, From: v.From, To: to})
		}
	}
	return out
}

// sketchAt is what the document's words say of a time.
func sketchAt(l []api.Version, time int64) int {
	at := -1
	if !sketchRight(l) || time > most {
		return at
	}
	for i, v := range l {
		if v.From <= time {
			at = i
		}
	}
	return at
}

// sketchBook is what the document's words say of a book.
func sketchBook(s []api.Schema, l []api.Version, given []api.Event, time int64) ([]api.Match, int64) {
	var found []api.Match
	least := int64(-1)
	for _, span := range sketchSpans(l) {
		if span.From > time {
			continue
		}
		q := l[span.At].Query
		var seen []api.Event
		for _, e := range given {
			if e.Ts >= span.From-q.Within {
				seen = append(seen, e)
			}
		}
		last := time
		if span.To-1 < last {
			last = span.To - 1
		}
		m, since := ledger.Book(s, q, seen, last)
		for _, x := range m {
			if x.Done >= span.From {
				found = append(found, x)
			}
		}
		if since != -1 && (least == -1 || since < least) {
			least = since
		}
	}
	return found, least
}

// book asks for a book, held against the sketch's; and answers it.
func book(t *testing.T, s []api.Schema, l []api.Version, given []api.Event, time int64) ([]api.Match, int64) {
	t.Helper()
	got, since := timeline.Book(s, l, given, time)
	want, wantSince := sketchBook(s, l, given, time)
	if since != wantSince || len(got) != len(want) || fmt.Sprint(got) != fmt.Sprint(want) {
		t.Errorf("%v: %v up to %d\n%s since %d is not\n%s since %d", l, given, time, told(got), since, told(want), wantSince)
	}
	return got, since
}

// dice are numbers that look like thrown ones, the same ones each time.
type dice uint64

func (r *dice) below(n int) int {
	*r = *r*6364136223846793005 + 1442695040888963407
	return int(uint64(*r) >> 33 % uint64(n))
}

// rarely is so once in so many times.
func (r *dice) rarely(n int) bool { return r.below(n) == 0 }

// names are some of a few, no two alike.
func (r *dice) names() []string {
	l := strings.Split("aaabbbcd", "")[r.below(8):]
	return slices.Compact(l[:min(len(l), 1+r.below(api.MaxNames))])
}

var vars = []string{"u", "v", "w", "x", "y", "z"}

// pred is a predicate of variables of l.
func (r *dice) pred(l []string) api.Pred {
	side := func() api.Expr {
		name := l[r.below(len(l))]
		switch r.below(5) {
		case 0:
			return api.Expr{Kind: api.ExCount, Var: name}
		case 1:
			return api.Expr{Kind: api.ExSum + r.below(3), Var: name, Field: "v"}
		case 2, 3:
			return api.Expr{Kind: api.ExField, Var: name, Field: "v"}
		}
		return api.Expr{Kind: api.ExVal, Val: api.Val{Kind: api.Int, N: int64(r.below(4))}}
	}
	return api.Pred{Cmp: api.Eq + r.below(6), L: side(), R: side()}
}

// query is a right one, of at most so many items.
func (r *dice) query(items int) api.Query {
	q := api.Query{Within: int64(r.below(14)), Pick: api.Any + r.below(3)}
	for at := range 1 + r.below(items) {
		it := api.Item{Names: r.names(), Var: vars[at], Mode: api.One + r.below(3)}
		if at == 0 {
			it.Mode = api.One + r.below(2)
		} else if r.rarely(4) {
			it.Not, it.Mode = true, api.One
		}
		q.Items = append(q.Items, it)
	}
	for range r.below(3) / 2 {
		q.Preds = append(q.Preds, r.pred(vars[:1+r.below(len(q.Items))]))
	}
	switch r.below(6) {
	case 0, 1, 2:
		q.By = "id"
	case 3:
		q.By = "v"
	}
	return q
}

// event is a right one, of the names that queries ask for, and of one that no schema has; now and then without its values, or with such of other kinds.
func (r *dice) event(ts int64) api.Event {
	e := api.Event{Ts: ts, Depth: r.below(2) * r.below(4), Seq: int64(r.below(4)), Name: string("aaaabbbbbcde"[r.below(12)])}
	many := map[string]int{"a": 2, "b": 2, "c": 1}[e.Name]
	if r.rarely(12) {
		many = r.below(3)
	}
	for range many {
		v := api.Val{Kind: api.Int, N: int64(r.below(3))}
		if r.rarely(12) {
			v = []api.Val{{Kind: api.Bool, N: 1}, {Kind: api.Text, S: "1"}, {Kind: api.Text}, {Kind: api.Bool}}[r.below(4)]
		}
		e.Vals = append(e.Vals, v)
	}
	return e
}

// events are some, in any order, also such of which neither is ahead.
func (r *dice) events(many, times int) []api.Event {
	var l []api.Event
	for range many {
		l = append(l, r.event(int64(r.below(times))))
	}
	return l
}

// row are events of which of any two one is ahead, in any order.
func (r *dice) row(many, times int) []api.Event {
	l := r.events(many, times)
	for i := range l {
		l[i].Seq = int64(i)
	}
	return r.mixed(l)
}

// mixed are the things of a list in another order.
func (r *dice) mixed(l []api.Event) []api.Event {
	l = slices.Clone(l)
	for i := range l {
		j := i + r.below(len(l)-i)
		l[i], l[j] = l[j], l[i]
	}
	return l
}

// version is a right one from a time on, that is no Drop.
func (r *dice) version(from int64) api.Version {
	return api.Version{From: from, Query: r.query(3)}
}

// versions are right ones, at most so many.
func (r *dice) versions(many int) []api.Version {
	var l []api.Version
	from := int64(r.below(5))
	for n := range r.below(many + 1) {
		if n > 0 && !l[n-1].Drop && r.rarely(4) {
			l = append(l, drop(from))
		} else {
			l = append(l, r.version(from))
		}
		from += 1 + int64(r.below(6))
	}
	return l
}

// anyVersions are such that may be right, and may not, each for a few things.
func (r *dice) anyVersions() []api.Version {
	l := r.versions(9)
	for range r.below(3) {
		if len(l) > 0 {
			r.change(l)
		}
	}
	return l
}

// change changes a version somewhere.
func (r *dice) change(l []api.Version) {
	at := r.below(len(l))
	switch r.below(6) {
	case 0:
		l[at].From = int64(r.below(30) - 2)
	case 1:
		l[at] = drop(l[at].From)
	case 2:
		l[at].Drop = !l[at].Drop
	case 3:
		l[at].Query.Within = []int64{-1, 0, most, most + 1}[r.below(4)]
	case 4:
		l[at].From = []int64{-1, 0, most, most + 1}[r.below(4)]
	case 5:
		l[at].Query.Pick = r.below(5)
	}
}
