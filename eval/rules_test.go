package eval_test

import (
	"fmt"
	"math"
	"reflect"
	"slices"
	"strconv"
	"strings"
	"sync"
	"testing"

	"augury/api"
	"augury/eval"
)

// wildExprs are of all kinds, with anything in them.
func wildExprs() []api.Expr {
	var l []api.Expr
	for _, kind := range []int{math.MinInt, -1, 0, 1, 2, 3, 4, 5, 6, 7, 8, 9, math.MaxInt} {
		for _, v := range []api.Val{{}, {Kind: api.Int, N: math.MinInt64}, {Kind: api.Bool, N: 9}, {Kind: api.Text, S: "\xff'"}} {
			for _, s := range []string{"", "x", "\xff"} {
				for _, kids := range [][]api.Expr{nil, {}, {{}}, {{}, {}}, {{Kind: 1}, {Kind: 1}}, {{Kind: kind}, {Kind: kind, Var: "x", Kids: []api.Expr{{}}}}, {{Kind: kind}, {}, {}}} {
					l = append(l, api.Expr{Kind: kind, Val: v, Var: s, Field: s, Kids: kids})
				}
			}
		}
	}
	return l
}

// wildQueries are of anything.
func wildQueries() []api.Query {
	l := []api.Query{{}, {Items: []api.Item{}}, {Items: []api.Item{{}}}, {Items: make([]api.Item, 9)}, {Preds: make([]api.Pred, 9)}}
	for _, n := range []int{math.MinInt, -1, 0, 1, 3, math.MaxInt} {
		for _, v := range []string{"", "x", "\xff"} {
			l = append(l, api.Query{Items: []api.Item{{Not: n == 0, Var: v, Mode: n}, {Not: n == 1, Names: []string{"", v}, Var: "x", Mode: n}}, Preds: []api.Pred{{Cmp: n}}, Within: int64(n), By: v, Pick: n})
		}
	}
	return l
}

// wildSchemas, and rows, are of anything.
func wildSchemas() [][]api.Schema {
	l := [][]api.Schema{nil, {}, {{}}, make([]api.Schema, 99)}
	for _, kind := range []int{math.MinInt, -1, 0, 1, 4, math.MaxInt} {
		for _, s := range []string{"", "x", "\xff"} {
			l = append(l, []api.Schema{{Name: s, Fields: slices.Repeat([]api.Field{{Name: s, Kind: kind}}, 9)}})
		}
	}
	return l
}

func wildRows() [][][]api.Event {
	wild := api.Event{Ts: math.MinInt64, Depth: math.MaxInt, Seq: math.MinInt64, Name: "\xff", Vals: odd()}
	return [][][]api.Event{nil, {}, {nil}, {{}}, {{{}}}, {{{}, {}}, {{}}}, {{wild, {}}, {wild}}, {{made("", odd()...)}, {made("x", odd()[3:]...)}}, make([][]api.Event, 99), slices.Repeat([][]api.Event{{made("x", integer(1))}}, 99)}
}

// P1: calls end, and none panics, at all arguments; what they answer is what the document's words say.
func TestAllArguments(t *testing.T) {
	schemas, queries, rows := wildSchemas(), wildQueries(), wildRows()
	for i, x := range wildExprs() {
		for j, q := range queries {
			l, b := schemas[(i+j)%len(schemas)], rows[(i/3+j)%len(rows)]
			q.Preds = append(slices.Clone(q.Preds), api.Pred{Cmp: i % 9, L: x, R: queryless()}, api.Pred{Cmp: j % 9, L: queryless(), R: x})
			compare(t, l, q, b, x, map[string]int{})
		}
	}
	for _, place := range []int{math.MinInt, -1, 0, 1, 5, 6, math.MaxInt} {
		for _, q := range queries {
			if got, want := eval.All(nil, q, nil, place), sketchAll(nil, q, nil, place); got != want {
				t.Errorf("%d: %v of %v", place, got, q)
			}
		}
	}
}

// queryless is an expression that asks for nothing of a query.
func queryless() api.Expr { return two(api.ExSub, num(3), num(2)) }

// P1: without schemas, without items, with nothing bound.
func TestNothing(t *testing.T) {
	q := wide(t)
	for i, c := range []struct {
		l          []api.Schema
		q          api.Query
		b          [][]api.Event
		field, sum worth
		count      worth
	}{
		{world(), q, bound(), is(integer(5)), is(integer(10)), is(integer(3))},
		{nil, q, bound(), wrong(api.ErrNone), wrong(api.ErrNone), is(integer(3))},
		{[]api.Schema{}, q, bound(), wrong(api.ErrNone), wrong(api.ErrNone), is(integer(3))},
		{world(), api.Query{}, bound(), wrong(api.ErrArg), wrong(api.ErrArg), wrong(api.ErrArg)},
		{world(), q, nil, wrong(api.ErrNone), wrong(api.ErrNone), is(integer(0))},
		{nil, q, nil, wrong(api.ErrNone), wrong(api.ErrNone), is(integer(0))},
		{nil, api.Query{}, nil, wrong(api.ErrArg), wrong(api.ErrArg), wrong(api.ErrArg)},
	} {
		for s, want := range map[string]worth{"y.v": c.field, "sum(y.v)": c.sum, "count(y)": c.count, "1 + 2": is(integer(3)), "'a'": is(text("a"))} {
			if v, e := eval.Value(c.l, c.q, c.b, expr(t, s)); v != want.v || e != want.e {
				t.Errorf("%d: %s: %v %v", i, s, v, e)
			}
		}
		for s, want := range map[string]bool{"y.v = 6": c.field.e == api.ErrNone, "y.v = 5": c.field.e != api.ErrArg, "1 = 1": true, "1 = 2": false} {
			if got := eval.Holds(c.l, c.q, c.b, pred(t, s)); got != want {
				t.Errorf("%d: %s: %v", i, s, got)
			}
		}
		if !eval.All(c.l, c.q, c.b, 0) || !eval.All(c.l, c.q, c.b, 1) {
			t.Error(i)
		}
	}
}

// P1: whatever there is much of.
func TestMuch(t *testing.T) {
	const many = 1 << 16
	long := strings.Repeat("a", 1<<24)
	var q api.Query
	var l []api.Schema
	var b [][]api.Event
	for i := range many {
		n := strconv.Itoa(i)
		q.Items = append(q.Items, api.Item{Var: "x" + n})
		l = append(l, schema("a"+n, "v int"))
		b = append(b, []api.Event{made("a"+strconv.Itoa(many-1), integer(int64(i)))})
	}
	last := of(api.ExField, "x"+strconv.Itoa(many-1), "v")
	sum := num(0)
	for range many {
		sum = two(api.ExSub, last, sum)
	}
	b[7] = slices.Repeat([]api.Event{b[many-1][0], b[3][0]}, 1<<20)
	l[3].Fields = slices.Repeat([]api.Field{{Name: long, Kind: 1}}, many)
	for i, c := range []struct {
		x    api.Expr
		want worth
	}{
		{last, is(integer(many - 1))}, {sum, is(integer(0))}, {of(api.ExField, long, long), wrong(api.ErrArg)}, {of(api.ExMin, "x7", long), wrong(api.ErrNone)}, {val(text(long)), wrong(api.ErrArg)},
		{api.Expr{Kind: api.ExCount, Var: "x7"}, is(integer(1 << 21))}, {of(api.ExSum, "x7", "v"), is(integer((many + 2) << 20))}, {of(api.ExMax, "x7", "v"), is(integer(many - 1))}, {of(api.ExMin, "x7", "v"), is(integer(3))},
		{api.Expr{Kind: api.ExAdd, Kids: slices.Repeat([]api.Expr{last}, many)}, wrong(api.ErrArg)},
	} {
		if v, e := eval.Value(l, q, b, c.x); v != c.want.v || e != c.want.e {
			t.Errorf("%d: %v %v", i, v, e)
		}
	}
	if !eval.Holds(l, q, b, api.Pred{Cmp: api.Eq, L: last, R: num(many - 1)}) || eval.Holds(l, q, b, api.Pred{Cmp: api.Ne, L: sum, R: num(0)}) {
		t.Error("holds")
	}
	for range many {
		q.Preds = append(q.Preds, api.Pred{Cmp: api.Lt, L: num(1), R: last})
	}
	if !eval.All(l, q, b, many-1) {
		t.Error("all")
	}
	q.Preds[many-1].Cmp = api.Gt
	if eval.All(l, q, b, many-1) || !eval.All(l, q, b, 7) {
		t.Error("all but one")
	}
}

// chain is so many sums of one and another, of which the first is of one and an end.
func chain(n, at int, end api.Expr) api.Expr {
	for range n {
		kids := []api.Expr{num(1), num(1)}
		kids[at] = end
		end = api.Expr{Kind: api.ExAdd, Kids: kids}
	}
	return end
}

// P1: a chain of Kids may be long, on either side.
func TestChain(t *testing.T) {
	for _, n := range []int{1 << 8, 1 << 16} {
		for at := range 2 {
			x := chain(n, at, of(api.ExField, "x", "v"))
			asks(t, bound(), x, is(integer(int64(n)+3)))
			asks(t, bound(), chain(n, at, of(api.ExField, "n", "v")), wrong(api.ErrNone))
			asks(t, bound(), chain(n, at, val(text("a"))), wrong(api.ErrType))
			asks(t, bound(), chain(n, at, api.Expr{Kind: api.ExSub}), wrong(api.ErrArg))
			p := api.Pred{Cmp: api.Eq, L: x, R: num(int64(n) + 3)}
			holds(t, bound(), p, true)
			if q := (api.Query{Items: wide(t).Items, Preds: []api.Pred{p}}); !eval.All(world(), q, bound(), 0) {
				t.Error(n)
			}
		}
	}
	// Longer than the document's bound of what is nested.
	asks(t, bound(), chain(1<<18, 0, num(0)), is(integer(1<<18)))
	asks(t, bound(), chain(1<<18, 1, num(0)), is(integer(1<<18)))
}

// P1: a row may be the Kids of many, so that by each anew there would be no end.
func TestShared(t *testing.T) {
	for s, want := range map[string]worth{"x.v": is(integer(3)), "n.v": wrong(api.ErrNone), "x.s": wrong(api.ErrType), "q.v": wrong(api.ErrArg)} {
		x := expr(t, s)
		for deep := range 300 {
			// It is less itself, or itself and what it is less itself.
			x = two(api.ExSub, x, x)
			if want.e == api.OK {
				want = is(integer(0))
			}
			asks(t, bound(), x, want)
			if deep%2 == 0 {
				x = two(api.ExAdd, x, expr(t, s))
				if want.e == api.OK {
					want = is(integer(3))
				}
				asks(t, bound(), x, want)
			}
		}
		holds(t, bound(), api.Pred{Cmp: api.Eq, L: x, R: x}, want.e == api.OK || want.e == api.ErrNone)
	}
	// Doubled as often as may be, and once more.
	x := num(1)
	for deep := range 300 {
		x = two(api.ExAdd, x, x)
		if deep < 40 {
			asks(t, bound(), x, is(integer(2<<deep)))
		} else {
			asks(t, bound(), x, wrong(api.ErrNumber))
		}
	}
}

// P1: a row may be below itself: there is no value of it, and an end.
func TestRing(t *testing.T) {
	for i := range 2 {
		for _, kind := range []int{api.ExAdd, api.ExSub} {
			ring := two(kind, num(1), num(2))
			ring.Kids[i] = ring
			asks(t, bound(), ring, wrong(api.ErrArg))
			asks(t, bound(), two(kind, ring, of(api.ExField, "n", "v")), wrong(api.ErrArg))
			asks(t, bound(), two(kind, of(api.ExField, "n", "v"), ring), wrong(api.ErrNone))
			holds(t, bound(), api.Pred{Cmp: api.Eq, L: ring, R: ring}, false)
			q := wide(t)
			q.Preds = []api.Pred{{Cmp: api.Eq, L: ring, R: of(api.ExField, "y", "v")}}
			if eval.All(world(), q, bound(), 1) || !eval.All(world(), q, bound(), 0) {
				t.Error("a ring holds")
			}
		}
	}
	// Rows that are parts of one another, and below themselves.
	row := []api.Expr{num(1), num(2), num(3), num(4)}
	for at := range row {
		from := (at + 1) % 3
		row[at] = api.Expr{Kind: api.ExAdd, Kids: row[from : from+2]}
		eval.Value(world(), wide(t), bound(), row[at])
		eval.Value(world(), wide(t), bound(), row[0])
	}
	asks(t, bound(), row[0], wrong(api.ErrArg))
}

// P1: rows may be parts of one another; each is a row of its own, for those that add it, and those that take it away.
func TestRowsWithin(t *testing.T) {
	row := []api.Expr{num(1), of(api.ExField, "x", "v"), num(5)}
	for i, c := range []struct {
		first, second []api.Expr
		want          worth
	}{{row[:2], row[:2], is(integer(6))}, {row[:2], row[1:], is(integer(6))}, {row[1:], row[:2], is(integer(10))}, {row[:2], row, wrong(api.ErrArg)}, {row, row[:2], wrong(api.ErrArg)}, {row[:1], row[1:], wrong(api.ErrArg)}, {row[1:], row[:0], wrong(api.ErrArg)}} {
		x := two(api.ExSub, api.Expr{Kind: api.ExAdd, Kids: c.first}, api.Expr{Kind: api.ExSub, Kids: c.second})
		if v, e := eval.Value(world(), wide(t), bound(), x); v != c.want.v || e != c.want.e {
			t.Errorf("%d: %v %v", i, v, e)
		}
	}
}

// P2: with an error there is no value.
func TestNothingElse(t *testing.T) {
	for s := range values {
		if v, e := eval.Value(world(), wide(t), bound(), expr(t, s)); e != api.OK && v != (api.Val{}) {
			t.Errorf("%s: %v %v", s, v, e)
		}
	}
	for _, x := range wildExprs() {
		for _, b := range wildRows() {
			if v, e := eval.Value(world(), wide(t), b, x); e != api.OK && v != (api.Val{}) {
				t.Errorf("%v: %v %v", x, v, e)
			}
		}
	}
}

// handed is what is handed in, with spare room in each list.
type handed struct {
	l []api.Schema
	q api.Query
	b [][]api.Event
	p api.Pred
}

const roomyText = "seq a or b x then b or a y+ then a z where sum(y.v) + (1 + 2) > x.v - 1 and x.v >= 1 + 2 and min(y.v) < max(y.v) and y.s = 'u' within 5"

// roomier is a list with spare room, that holds something.
func roomier[T any](l []T, spare T) []T { return append(slices.Clone(l), spare, spare)[:len(l)] }

func widened(x api.Expr) api.Expr {
	kids := roomier(x.Kids, of(api.ExField, "spare", "v"))
	for i, k := range kids {
		kids[i] = widened(k)
	}
	x.Kids = kids
	return x
}

func roomy(t *testing.T) handed {
	h := handed{l: roomier(world(), schema("spare")), q: parsed(t, roomyText), b: roomier(bound(), ints(99))}
	for i := range h.l {
		h.l[i].Fields = roomier(h.l[i].Fields, api.Field{Name: "spare", Kind: 1})
	}
	h.q.Items = roomier(h.q.Items, api.Item{Var: "spare"})
	for i := range h.q.Items {
		h.q.Items[i].Names = roomier(h.q.Items[i].Names, "spare")
	}
	h.q.Preds = roomier(h.q.Preds, api.Pred{Cmp: 9})
	for i, p := range h.q.Preds {
		h.q.Preds[i].L, h.q.Preds[i].R = widened(p.L), widened(p.R)
	}
	for i, row := range h.b {
		h.b[i] = roomier(row, made("spare"))
		for j := range row {
			h.b[i][j].Vals = roomier(row[j].Vals, integer(98))
		}
	}
	h.p = h.q.Preds[0]
	return h
}

// rooms are all lists, with their spare room.
func (h handed) rooms() []any {
	l := []any{h.l[:cap(h.l)], h.q.Items[:cap(h.q.Items)], h.q.Preds[:cap(h.q.Preds)], h.b[:cap(h.b)]}
	for _, s := range h.l {
		l = append(l, s.Fields[:cap(s.Fields)])
	}
	for _, i := range h.q.Items {
		l = append(l, i.Names[:cap(i.Names)])
	}
	for _, row := range h.b {
		l = append(l, row[:cap(row)])
		for _, e := range row {
			l = append(l, e.Vals[:cap(e.Vals)])
		}
	}
	var whole func(x api.Expr)
	whole = func(x api.Expr) {
		l = append(l, x.Kids[:cap(x.Kids)])
		for _, k := range x.Kids {
			whole(k)
		}
	}
	for _, p := range h.q.Preds {
		whole(p.L)
		whole(p.R)
	}
	return l
}

// answers are all that the calls answer of what is handed in.
func (h handed) answers() string {
	var out []any
	for _, p := range append(slices.Clone(h.q.Preds), h.p) {
		for _, x := range []api.Expr{p.L, p.R} {
			v, e := eval.Value(h.l, h.q, h.b, x)
			out = append(out, v, int(e))
		}
		out = append(out, eval.Holds(h.l, h.q, h.b, p))
	}
	for place := range 4 {
		out = append(out, eval.All(h.l, h.q, h.b, place))
	}
	return fmt.Sprint(out...)
}

// P3: what is handed in is not changed, nor its spare room; and not kept.
func TestHandedIn(t *testing.T) {
	h, want := roomy(t), roomy(t)
	first := h.answers()
	if !reflect.DeepEqual(h, want) || !reflect.DeepEqual(h.rooms(), want.rooms()) {
		t.Errorf("%v is not %v", h.rooms(), want.rooms())
	}
	if got := want.answers(); got != first {
		t.Errorf("%s is not %s", got, first)
	}
	// What is written to it behind the call is seen, and nothing of what it was.
	x := of(api.ExField, "y", "v")
	for i, c := range []struct {
		change func()
		want   worth
	}{
		{func() {}, is(integer(5))},
		{func() { h.b[1][2].Vals[1] = integer(6) }, is(integer(6))},
		{func() { h.b[1] = h.b[1][:2] }, is(integer(-2))},
		{func() { h.l[0].Fields[1].Name, h.l[0].Fields[0].Name = "v", "w" }, is(integer(9))},
		{func() { h.l[3].Fields[1].Name = "vv" }, is(integer(9))},
		{func() { h.l[0].Name = "aa" }, wrong(api.ErrNone)},
		{func() { h.l[3].Fields[0].Name = "v" }, is(integer(-2))},
		{func() { h.q.Items[0].Var, h.q.Items[1].Var = "y", "x" }, is(integer(3))},
		{func() { h.b[0][0] = made("b", text(""), integer(8)) }, is(integer(8))},
		{func() { h.b[0] = h.b[0][:0] }, wrong(api.ErrNone)},
		{func() { h.q.Items[0].Var = "q" }, wrong(api.ErrArg)},
	} {
		c.change()
		if v, e := eval.Value(h.l, h.q, h.b, x); v != c.want.v || e != c.want.e {
			t.Errorf("%d: %v %v", i, v, e)
		}
	}
	if got := want.answers(); got != first {
		t.Errorf("%s is not %s", got, first)
	}
}

// P3: the same answers come, whatever was asked in between.
func TestSameAgain(t *testing.T) {
	r := dice(115)
	for range 3 {
		for s, want := range values {
			q := r.wildQuery()
			eval.Value(r.schemas(), q, r.bound(world(), 4), r.wild(4, vars))
			eval.All(r.schemas(), q, r.bound(world(), 4), 1)
			asks(t, bound(), expr(t, s), want)
		}
		for s, want := range held {
			eval.Holds(nil, wide(t), bound(), pred(t, s))
			holds(t, bound(), pred(t, s), want)
		}
	}
}

// P3: calls that are made at once see nothing of one another, and only read what they share.
func TestAtOnce(t *testing.T) {
	h := roomy(t)
	want := h.answers()
	var all sync.WaitGroup
	for n := range 8 {
		all.Go(func() {
			r := dice(n)
			many := map[string]int{}
			for range 200 {
				l, q := r.schemas(), r.wildQuery()
				compare(t, l, q, r.bound(l, len(q.Items)), r.wild(4, vars), many)
				if got := h.answers(); got != want {
					t.Errorf("%s is not %s", got, want)
				}
			}
		})
	}
	all.Wait()
}
