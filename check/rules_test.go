package check_test

import (
	"math"
	"reflect"
	"slices"
	"strconv"
	"strings"
	"sync"
	"testing"

	"augury/api"
	"augury/check"
)

// wildExprs are of all kinds, with anything in them.
func wildExprs() []api.Expr {
	var l []api.Expr
	for _, kind := range []int{math.MinInt, -1, 0, 1, 2, 3, 4, 5, 6, 7, 8, 9, math.MaxInt} {
		for _, v := range []api.Val{{}, {Kind: api.Int, N: math.MinInt64}, {Kind: api.Bool, N: 9}, {Kind: api.Text, S: "\xff'"}, {Kind: math.MinInt}} {
			for _, s := range []string{"", "x", "'", "\xff", "seq"} {
				for _, kids := range [][]api.Expr{nil, {}, {{}}, {{Kind: 1}, {Kind: 1}}, {{Kind: kind}, {Kind: kind, Var: "x", Kids: []api.Expr{{}}}, {}}} {
					l = append(l, api.Expr{Kind: kind, Val: v, Var: s, Field: s, Kids: kids})
				}
			}
		}
	}
	return l
}

// wildQueries are of anything.
func wildQueries() []api.Query {
	l := []api.Query{{}, {Items: []api.Item{}}, {Items: []api.Item{{}}}, {Items: make([]api.Item, 9)}, {Preds: make([]api.Pred, 9)}}
	for _, n := range []int{math.MinInt, -1, 0, 1, 2, 3, 4, math.MaxInt} {
		for _, names := range [][]string{nil, {}, {""}, {"a"}, {"\xff", "a"}, {"x", "x", "x", "x"}} {
			for _, v := range []string{"", "x", "'", "\xff", "seq"} {
				l = append(l, api.Query{Items: []api.Item{{Not: n == 0, Names: names, Var: v, Mode: n}, {Not: n == 1, Names: names, Var: v, Mode: n}}, Preds: []api.Pred{{Cmp: n}}, Within: int64(n), By: v, Pick: n})
			}
		}
	}
	return l
}

// wildSchemas are of anything.
func wildSchemas() [][]api.Schema {
	l := [][]api.Schema{nil, {}, {{}}, make([]api.Schema, 99)}
	for _, kind := range []int{math.MinInt, -1, 0, 1, 4, math.MaxInt} {
		for _, s := range []string{"", "a", "\xff"} {
			f := api.Field{Name: s, Kind: kind}
			l = append(l, []api.Schema{{Name: s, Fields: []api.Field{f}}, {Name: s, Fields: slices.Repeat([]api.Field{f}, 99)}})
		}
	}
	return l
}

// P1: calls end, and none panics, at all arguments.
func TestAllArguments(t *testing.T) {
	right := parsed(t, "seq a x then not a n where x.v = n.v within 5 by v")
	lists, queries := wildSchemas(), wildQueries()
	for _, l := range lists {
		for _, q := range queries {
			if e, at := check.Check(l, q); e != api.ErrArg || at != 0 {
				t.Errorf("%v: %v %d", q, e, at)
			}
		}
		check.Check(l, right)
	}
	queries = append(queries, right)
	for i, x := range wildExprs() {
		for j, q := range queries {
			check.Vars(q, x)
			check.Kind(lists[(i+j)%len(lists)], q, x)
			q.Preds = []api.Pred{{Cmp: api.Eq, L: x, R: x}}
			check.Check(nil, q)
		}
	}
}

// P1: whatever there is much of.
func TestMuch(t *testing.T) {
	const many = 1 << 16
	long := strings.Repeat("a", 1<<24)
	q := parsed(t, "seq a x then b y where x.v = y.v within 5 by v")
	var named []api.Item
	var l []api.Schema
	for i := range many {
		named = append(named, api.Item{Names: []string{"a"}, Var: "x" + strconv.Itoa(i)})
		l = append(l, schema("a"+strconv.Itoa(i)))
	}
	l = append(l, world()...)
	answers(t, l, q, api.OK, 0)
	answers(t, l[:many], q, api.ErrNone, 0)
	answers(t, []api.Schema{{Name: long}, {Name: "a", Fields: make([]api.Field, many)}, {Name: "b", Fields: []api.Field{{Name: long, Kind: 1}}}}, q, api.ErrCheck, 0)
	last := api.Expr{Kind: api.ExField, Var: "x" + strconv.Itoa(many-1), Field: "v"}
	row := api.Expr{Kind: api.ExAdd, Kids: slices.Repeat([]api.Expr{last, {Kind: api.ExCount, Var: "x7"}}, many)}
	wideQuery := api.Query{Items: named}
	if got := check.Kind(l, wideQuery, last); got != api.Int {
		t.Error(got)
	}
	if got := check.Kind(l, wideQuery, row); got != 0 {
		t.Error(got)
	}
	if got := check.Vars(wideQuery, row); !slices.Equal(got, []int{7, many - 1}) {
		t.Error(got)
	}
	if e, at := check.Check(l, wideQuery); e != api.ErrArg || at != 0 {
		t.Error(e, at)
	}
	names := api.Query{Items: []api.Item{{Names: slices.Repeat([]string{"a", "b"}, many), Var: long}}}
	for field, want := range map[string]int{"v": api.Int, "m": 0, long: 0} {
		if got := check.Kind(l, names, api.Expr{Kind: api.ExField, Var: long, Field: field}); got != want {
			t.Error(got)
		}
	}
}

// P1: a chain of Kids may be long, on either side.
func TestChain(t *testing.T) {
	one := api.Expr{Kind: api.ExVal, Val: api.Val{Kind: api.Int}}
	q := parsed(t, "seq a x then b y where x.v = y.v within 5")
	for _, end := range []string{"y.v", "y.s"} {
		want := 0
		if end == "y.v" {
			want = api.Int
		}
		for _, n := range []int{1 << 8, 1 << 16, 1 << 18} {
			left, right := expr(t, end), expr(t, end)
			for range n {
				left = api.Expr{Kind: api.ExAdd, Kids: []api.Expr{left, one}}
				right = api.Expr{Kind: api.ExSub, Kids: []api.Expr{one, right}}
			}
			for _, x := range []api.Expr{left, right} {
				if check.Kind(world(), q, x) != want || !slices.Equal(check.Vars(q, x), []int{1}) {
					t.Error(n, check.Kind(world(), q, x), check.Vars(q, x))
				}
				q.Preds[0].L = x
				if e, at := check.Check(world(), q); e != api.ErrArg || at != 0 {
					t.Error(e, at)
				}
			}
		}
	}
}

// P1: a chain may be longer than calls can be deep.
func TestLongestChain(t *testing.T) {
	x := expr(t, "y.v")
	for range 1 << 21 {
		x = api.Expr{Kind: api.ExSub, Kids: []api.Expr{x}}
	}
	q := wide(t)
	if check.Kind(world(), q, x) != 0 || !slices.Equal(check.Vars(q, x), []int{1}) {
		t.Error(check.Kind(world(), q, x), check.Vars(q, x))
	}
}

// P1: a row may be the Kids of many, so that by each anew there would be no end.
func TestShared(t *testing.T) {
	q := wide(t)
	for _, end := range []string{"y.v", "y.s"} {
		x := expr(t, end)
		for deep := range 200 {
			x = api.Expr{Kind: api.ExAdd + deep%2, Kids: []api.Expr{x, x}}
			if got := check.Kind(world(), q, x); got != map[string]int{"y.v": api.Int}[end] {
				t.Error(deep, got)
			}
			if got := check.Vars(q, x); !slices.Equal(got, []int{1}) {
				t.Error(deep, got)
			}
		}
	}
	for i := range 2 {
		ring := api.Expr{Kind: api.ExAdd, Kids: []api.Expr{expr(t, "y.v"), expr(t, "y.v")}}
		ring.Kids[i] = ring
		check.Kind(world(), q, ring)
		if got := check.Vars(q, ring); !slices.Equal(got, []int{1}) {
			t.Error(got)
		}
		q := parsed(t, "seq a x where x.v = 1 within 5")
		q.Preds[0].R = ring
		if e, at := check.Check(world(), q); e != api.ErrArg || at != 0 {
			t.Error(e, at)
		}
	}
}

// P1: rows may be parts of one another; each is a row of its own.
func TestRowsWithin(t *testing.T) {
	q := wide(t)
	row := []api.Expr{expr(t, "x.v"), expr(t, "y.v"), expr(t, "w.s")}
	for _, c := range []struct {
		first, second []api.Expr
		kind          int
		vars          []int
	}{{row[:2], row[:2], api.Int, []int{0, 1}}, {row[:2], row[1:], 0, []int{0, 1, 2}}, {row[:2], row, 0, []int{0, 1, 2}}, {row, row[:2], 0, []int{0, 1, 2}}, {row[:1], row[:2], 0, []int{0, 1}}, {row[:2], row[:0], 0, []int{0, 1}}, {row[1:2], row[1:], 0, []int{1, 2}}} {
		x := api.Expr{Kind: api.ExSub, Kids: []api.Expr{{Kind: api.ExAdd, Kids: c.first}, {Kind: api.ExAdd, Kids: c.second}}}
		if check.Kind(world(), q, x) != c.kind || !slices.Equal(check.Vars(q, x), c.vars) {
			t.Errorf("%v: %d %v", x, check.Kind(world(), q, x), check.Vars(q, x))
		}
	}
}

// P2: where there is no error, there is no place; an error of a query that is not right has none.
func TestNothingElse(t *testing.T) {
	for _, c := range texts {
		if e, at := check.Check(world(), parsed(t, c.text)); e == api.OK && at != 0 {
			t.Errorf("%s: %d", c.text, at)
		}
	}
	for _, x := range []api.Expr{{}, {Kind: 9}, expr(t, "xx.v"), expr(t, "1")} {
		if got := check.Vars(wide(t), x); len(got) > 0 {
			t.Errorf("%v: %v", x, got)
		}
	}
}

// handed is what is handed in, with spare room in each list, and rooms are these lists with their room.
type handed struct {
	schemas []api.Schema
	query   api.Query
	expr    api.Expr
}

func roomy(t *testing.T) handed {
	spare := api.Expr{Kind: api.ExField, Var: "spare", Field: "v"}
	h := handed{schemas: append(world(), schema("spare"), schema("spare"))[:len(world())], query: parsed(t, "seq a or b x then not a n where x.v + (1 + 2) = n.v within 5 by v")}
	for i := range h.schemas {
		s := &h.schemas[i]
		s.Fields = append(s.Fields, api.Field{Name: "spare", Kind: 1})[:len(s.Fields)]
	}
	q := &h.query
	q.Items = append(q.Items, api.Item{Var: "spare"})[:len(q.Items)]
	q.Preds = append(q.Preds, api.Pred{Cmp: 9})[:len(q.Preds)]
	for i := range q.Items {
		q.Items[i].Names = append(q.Items[i].Names, "spare")[:len(q.Items[i].Names)]
	}
	x := &q.Preds[0].L
	x.Kids = append(x.Kids, spare)[:2]
	x.Kids[1].Kids = append(x.Kids[1].Kids, spare)[:2]
	h.expr = *x
	return h
}

func (h handed) rooms() []any {
	x := h.query.Preds[0].L
	l := []any{h.schemas[:cap(h.schemas)], h.query.Items[:cap(h.query.Items)], h.query.Preds[:cap(h.query.Preds)], x.Kids[:cap(x.Kids)], x.Kids[1].Kids[:cap(x.Kids[1].Kids)]}
	for _, s := range h.schemas {
		l = append(l, s.Fields[:cap(s.Fields)])
	}
	for _, i := range h.query.Items {
		l = append(l, i.Names[:cap(i.Names)])
	}
	return l
}

// P3: what is handed in is not changed, nor its spare room; and not kept.
func TestHandedIn(t *testing.T) {
	h, want := roomy(t), roomy(t)
	answers(t, h.schemas, h.query, api.OK, 0)
	if check.Kind(h.schemas, h.query, h.expr) != api.Int || !slices.Equal(check.Vars(h.query, h.expr), []int{0}) {
		t.Errorf("%v", h)
	}
	if !reflect.DeepEqual(h, want) || !reflect.DeepEqual(h.rooms(), want.rooms()) {
		t.Errorf("%v is not %v", h.rooms(), want.rooms())
	}
	// What is written to it behind the call is seen, and nothing of what it was.
	h.schemas[0].Fields[0].Kind = api.Text
	answers(t, h.schemas, h.query, api.ErrCheck, 0)
	h.query.By = ""
	answers(t, h.schemas, h.query, api.ErrType, 0)
	h.query.Items[1].Names[0] = "e"
	answers(t, h.schemas, h.query, api.ErrNone, 1)
	if check.Kind(h.schemas, h.query, h.expr) != 0 {
		t.Errorf("%v", h)
	}
}

// P3: a list that comes out is new memory, its spare room too.
func TestComesOut(t *testing.T) {
	q := wide(t)
	for _, c := range known {
		one, other := check.Vars(q, expr(t, c.text)), check.Vars(q, expr(t, c.text))
		one = one[:cap(one)]
		for i := range one {
			one[i] = -9
		}
		if !slices.Equal(other, c.vars) || !slices.Equal(check.Vars(q, expr(t, c.text)), c.vars) {
			t.Errorf("%s: %v is not %v", c.text, other, c.vars)
		}
	}
}

// P3: the same answers come, whatever was asked in between.
func TestSameAgain(t *testing.T) {
	for range 2 {
		for i, c := range texts {
			k := known[i%len(known)]
			check.Check(nil, parsed(t, c.text))
			check.Kind(world()[i%4:], wide(t), expr(t, k.text))
			answers(t, world(), parsed(t, c.text), c.want, c.at)
			if got := check.Kind(world(), wide(t), expr(t, k.text)); got != k.kind {
				t.Errorf("%s: %d is not %d", k.text, got, k.kind)
			}
			if got := check.Vars(wide(t), expr(t, k.text)); !slices.Equal(got, k.vars) {
				t.Errorf("%s: %v is not %v", k.text, got, k.vars)
			}
		}
	}
}

// P3: calls that are made at once see nothing of one another.
func TestAtOnce(t *testing.T) {
	l, q, x := world(), parsed(t, "seq a x then not a n then b y where n.v = x.v and n.v = y.v + x.v within 5 by v"), expr(t, "y.v + x.v")
	var all sync.WaitGroup
	for n := range 8 {
		all.Go(func() {
			r := dice(n)
			for range 300 {
				compare(t, r.schemas(), r.query())
				answers(t, l, q, api.ErrCheck, 1)
				if check.Kind(l, q, x) != api.Int || !slices.Equal(check.Vars(q, x), []int{0, 2}) {
					t.Error("not the same at once")
				}
			}
		})
	}
	all.Wait()
}
