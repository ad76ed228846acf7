package norm_test

import (
	"math"
	"reflect"
	"slices"
	"strconv"
	"strings"
	"sync"
	"testing"

	"augury/api"
	"augury/norm"
	"augury/tree"
)

// wildExprs are of all kinds, with anything in them.
func wildExprs() []api.Expr {
	var l []api.Expr
	for _, kind := range []int{math.MinInt, -1, 0, 1, 2, 3, 4, 5, 6, 7, 8, 9, math.MaxInt} {
		for _, v := range []api.Val{{}, {Kind: api.Int, N: math.MinInt64}, {Kind: api.Bool, N: 9}, {Kind: api.Text, S: "\xff'"}, {Kind: math.MinInt}} {
			for _, s := range []string{"", "x", "'", "\xff", "seq"} {
				for _, kids := range [][]api.Expr{nil, {}, {{}}, {{}, {}}, {{Kind: 1}, {Kind: 1}}, {{Kind: kind}, {Kind: kind, Var: "x", Kids: []api.Expr{{}}}}, {{Kind: kind}, {}, {}}} {
					l = append(l, api.Expr{Kind: kind, Val: v, Var: s, Field: s, Kids: kids})
				}
			}
		}
	}
	return l
}

// wildQueries are of anything, and not right.
func wildQueries() []api.Query {
	l := []api.Query{{}, {Items: []api.Item{}}, {Items: []api.Item{{}}}, {Items: make([]api.Item, 9)}, {Preds: make([]api.Pred, 9)}}
	for _, n := range []int{math.MinInt, -1, 0, 1, 2, 3, 4, math.MaxInt} {
		for _, names := range [][]string{nil, {}, {""}, {"a"}, {"\xff", "a"}, {"x", "x", "x", "x"}} {
			for _, v := range []string{"", "x", "'", "\xff", "seq"} {
				l = append(l, api.Query{Items: []api.Item{{Not: n == 0, Names: names, Var: v, Mode: n}, {Not: n == 1, Names: names, Var: v, Mode: n}}, Preds: []api.Pred{{Cmp: n}}, Within: int64(n), By: v, Pick: n})
			}
		}
	}
	return l
}

// P1: calls end, and none panics, at all arguments; P2: of a query that is not right there is nothing.
func TestAllArguments(t *testing.T) {
	zero := func(q api.Query) {
		t.Helper()
		if n := norm.Norm(q); !reflect.ValueOf(clean(n)).IsZero() {
			t.Errorf("%v: %v", q, n)
		}
	}
	queries := wildQueries()
	for _, q := range queries {
		zero(q)
	}
	right := parsed(t, "seq a x then not a n where x.v = n.v within 5 by v")
	for i, x := range wildExprs() {
		norm.Fold(x)
		norm.Fold(two(api.ExSub, x, x))
		for n := range 20 {
			norm.Place(queries[(i+n)%len(queries)], api.Pred{Cmp: n, L: x, R: x})
		}
		for _, p := range []api.Pred{{Cmp: api.Eq, L: x, R: num(1)}, {Cmp: api.Gt, L: num(1), R: x}} {
			q := right
			q.Preds = []api.Pred{right.Preds[0], p}
			if n := norm.Norm(q); tree.Right(n) != tree.Right(q) {
				t.Errorf("%v: %v", q, n)
			}
		}
	}
}

// P1: whatever there is much of.
func TestMuch(t *testing.T) {
	const many = 1 << 16
	long := strings.Repeat("a", 1<<24)
	var q api.Query
	for i := range many {
		q.Items = append(q.Items, api.Item{Names: []string{"a"}, Var: "x" + strconv.Itoa(i)})
	}
	last := api.Expr{Kind: api.ExField, Var: "x" + strconv.Itoa(many-1), Field: long}
	row := api.Expr{Kind: api.ExAdd, Kids: slices.Repeat([]api.Expr{{Kind: api.ExCount, Var: "x7"}, last, num(1)}, many)}
	if got := norm.Place(q, api.Pred{L: num(1), R: row}); got != many-1 {
		t.Error(got)
	}
	if n := norm.Norm(q); len(n.Items) > 0 {
		t.Error(len(n.Items))
	}
	if x := norm.Fold(row); len(x.Kids) != 3*many || x.Kids[1].Field != long {
		t.Error(len(x.Kids))
	}
	// More rows within a row than have memory of their own.
	row.Kids = slices.Repeat([]api.Expr{two(api.ExAdd, num(1), num(2))}, 9*many)
	if x := norm.Fold(two(api.ExAdd, row, two(api.ExAdd, num(1), num(2)))); len(x.Kids[0].Kids) != 9*many || x.Kids[1].Val.N != 3 || len(x.Kids[0].Kids[9*many-1].Kids) != 2 {
		t.Error(len(x.Kids))
	}
	text := val(api.Val{Kind: api.Text, S: long})
	if x := norm.Fold(two(api.ExSub, text, num(1))); x.Kind != api.ExSub {
		t.Error(x.Kind)
	}
	q = parsed(t, "seq a x where x.v > 1 within 5")
	for _, change := range []func(q *api.Query){
		func(q *api.Query) { q.By = long },
		func(q *api.Query) { q.Items[0].Var = long },
		func(q *api.Query) { q.Items[0].Names = make([]string, many) },
		func(q *api.Query) { q.Preds = make([]api.Pred, many) },
		func(q *api.Query) { q.Preds[0].L.Var = long },
		func(q *api.Query) { q.Preds[0].R = row },
	} {
		one := clean(q)
		change(&one)
		if n := norm.Norm(one); len(n.Items) > 0 {
			t.Error(len(n.Items))
		}
	}
}

// chain is so many sums of one and another, of which the first is of one and an end.
func chain(n, at int, end api.Expr) api.Expr {
	for range n {
		kids := []api.Expr{num(1), num(1)}
		kids[at] = end
		end = api.Expr{Kind: api.ExAdd, Kids: kids}
	}
	return end
}

// P1: a chain of Kids may be long, on either side.
func TestChain(t *testing.T) {
	for _, n := range []int{1 << 8, 1 << 16, 1 << 18} {
		for at := range 2 {
			if got := norm.Fold(chain(n, at, num(0))); !reflect.DeepEqual(got, num(int64(n))) {
				t.Error(n, got.Kind)
			}
			x := chain(n, at, field())
			if got := norm.Place(wide(t), api.Pred{L: x, R: x}); got != 0 {
				t.Error(n, got)
			}
			got := norm.Fold(x)
			for range n {
				if got.Kind != api.ExAdd || len(got.Kids) != 2 || !reflect.DeepEqual(got.Kids[1-at], num(1)) {
					t.Fatal(n, got.Kind)
				}
				got = got.Kids[at]
			}
			if !reflect.DeepEqual(got, field()) {
				t.Error(n, got)
			}
		}
	}
}

// P1: a row may be the Kids of many, so that by each anew there would be no end.
func TestShared(t *testing.T) {
	zero, part, q := num(0), two(api.ExSub, num(1), field()), parsed(t, "seq a x where x.v > 1 within 5")
	for deep := 3; deep < 200; deep++ {
		zero = two(api.ExAdd+deep%2, zero, zero)
		part = two(api.ExAdd+deep%2, part, part)
		if got := norm.Fold(zero); !reflect.DeepEqual(got, num(0)) {
			t.Error(deep, got)
		}
		if deep > 20 && deep%60 > 0 {
			continue
		}
		got := norm.Fold(two(api.ExAdd, part, two(api.ExSub, num(1), num(1)))).Kids[0]
		for i := deep; i > 2; i-- {
			if got.Kind != api.ExAdd+i%2 || len(got.Kids) != 2 {
				t.Fatal(deep, i, got.Kind)
			}
			got = got.Kids[i/2%2]
		}
		if !reflect.DeepEqual(got, two(api.ExSub, num(1), field())) {
			t.Error(deep, got)
		}
		q.Preds[0].L = part
		if n := norm.Norm(q); tree.Right(n) != (deep <= 6) {
			t.Error(deep)
		}
	}
}

// P1: a row may be below itself.
func TestRing(t *testing.T) {
	for i := range 2 {
		ring := two(api.ExAdd, num(1), num(2))
		ring.Kids[1-i] = two(api.ExAdd, num(3), num(4))
		ring.Kids[i] = ring
		got := norm.Fold(ring)
		for range 99 {
			if got.Kind != api.ExAdd || len(got.Kids) != 2 || got.Kids[1-i].Val.N != 7 {
				t.Fatal(got.Kind)
			}
			got = got.Kids[i]
		}
		if at := norm.Place(wide(t), api.Pred{L: ring, R: ring}); at != 0 {
			t.Error(at)
		}
		q := parsed(t, "seq a x where x.v > 1 within 5")
		q.Preds[0].R = ring
		if n := norm.Norm(q); len(n.Items) > 0 {
			t.Error("a ring is right")
		}
		// Rows that are parts of one another, and below themselves.
		row := []api.Expr{num(1), num(2), num(3), num(4)}
		for at := range row {
			from := (at + 1 + i) % 3
			row[at] = api.Expr{Kind: api.ExAdd, Kids: row[from : from+2]}
			norm.Fold(row[at])
			norm.Fold(row[0])
		}
		ring.Kids = append(ring.Kids, num(1))
		ring.Kids[2] = ring
		if got := norm.Fold(ring); len(got.Kids) != 3 || len(got.Kids[2].Kids) != 3 {
			t.Error(len(got.Kids))
		}
	}
}

// P1: rows may be parts of one another; each is a row of its own.
func TestRowsWithin(t *testing.T) {
	row := []api.Expr{num(1), num(2), num(4)}
	for _, c := range []struct {
		first, second []api.Expr
		want          api.Expr
	}{{row[:2], row[:2], num(0)}, {row[:2], row[1:], num(-3)}, {row[1:], row[:2], num(3)}, {row[:2], row, two(api.ExSub, num(3), api.Expr{Kind: api.ExAdd, Kids: row})}, {row[:1], row[1:], two(api.ExSub, api.Expr{Kind: api.ExAdd, Kids: row[:1]}, num(6))}} {
		folds(t, two(api.ExSub, api.Expr{Kind: api.ExAdd, Kids: c.first}, api.Expr{Kind: api.ExAdd, Kids: c.second}), c.want)
	}
	// One row is folded for those that add it, and for those that take it away.
	folds(t, two(api.ExAdd, api.Expr{Kind: api.ExAdd, Kids: row[1:]}, api.Expr{Kind: api.ExSub, Kids: row[1:]}), num(4))
}

// roomyText is a query's in whose lists there is spare room; what is folded, turned about and put in order.
const roomyText = "seq a or b x then not a n then b y where y.v + (1 + 2) > 4 - 3 and n.v = 1 and x.v - (1 - x.w) = 1 within 5 by v pick next"

// roomyNorm is the text of its normal form.
const roomyNorm = "seq a or b x then not a n then b y where x.v - (1 - x.w) = 1 and n.v = 1 and 1 < y.v + 3 within 5 by v pick next"

// widened is an expression with spare room in each row of Kids, empty ones too.
func widened(x api.Expr) api.Expr {
	spare := api.Expr{Kind: api.ExField, Var: "spare", Field: "v"}
	room := make([]api.Expr, 0, len(x.Kids)+2)
	for _, k := range x.Kids {
		room = append(room, widened(k))
	}
	x.Kids = room
	_ = append(x.Kids, spare, spare)
	return x
}

// roomy is the query of roomyText, with spare room in each list.
func roomy(t *testing.T) api.Query {
	q := parsed(t, roomyText)
	q.Items = append(q.Items, api.Item{Var: "spare"}, api.Item{Var: "spare"})[:len(q.Items)]
	q.Preds = append(q.Preds, api.Pred{Cmp: 9}, api.Pred{Cmp: 9})[:len(q.Preds)]
	for i := range q.Items {
		q.Items[i].Names = append(q.Items[i].Names, "spare", "spare")[:len(q.Items[i].Names)]
	}
	for i, p := range q.Preds {
		q.Preds[i].L, q.Preds[i].R = widened(p.L), widened(p.R)
	}
	return q
}

// whole are all rows of an expression, with their spare room.
func whole(x api.Expr) [][]api.Expr {
	l := [][]api.Expr{x.Kids[:cap(x.Kids)]}
	for _, k := range x.Kids {
		l = append(l, whole(k)...)
	}
	return l
}

// rooms are all lists of a query, with their spare room.
func rooms(q api.Query) []any {
	l := []any{q.Items[:cap(q.Items)], q.Preds[:cap(q.Preds)]}
	for _, i := range q.Items {
		l = append(l, i.Names[:cap(i.Names)])
	}
	for _, p := range q.Preds {
		l = append(l, whole(p.L), whole(p.R))
	}
	return l
}

// P3: what is handed in is not changed, nor its spare room; and not kept.
func TestHandedIn(t *testing.T) {
	q, want := roomy(t), roomy(t)
	unchanged := func() {
		t.Helper()
		if !reflect.DeepEqual(q, want) || !reflect.DeepEqual(rooms(q), rooms(want)) {
			t.Errorf("%v is not %v", rooms(q), rooms(want))
		}
	}
	n := norm.Norm(q)
	unchanged()
	var l []api.Expr
	for _, p := range q.Preds {
		norm.Place(q, p)
		l = append(l, norm.Fold(p.L), norm.Fold(p.R))
	}
	unchanged()
	// What is written to what came out is not seen in what was handed in.
	for _, x := range l {
		spoil(x)
	}
	spoilQuery(n)
	unchanged()
	// Nor the other way.
	n = norm.Norm(q)
	x := norm.Fold(q.Preds[0].L)
	spoilQuery(q)
	if tree.Print(n) != roomyNorm || !reflect.DeepEqual(x, pred(t, "y.v + 3 = 1").L) {
		t.Errorf("%q %v", tree.Print(n), x)
	}
}

// spoil writes to all of an expression's rows, with their spare room.
func spoil(x api.Expr) {
	for _, l := range whole(x) {
		for i := range l {
			l[i] = api.Expr{Kind: 9, Var: "spoilt"}
		}
	}
}

// spoilQuery writes to all of a query's lists, with their spare room.
func spoilQuery(q api.Query) {
	for _, i := range q.Items {
		l := i.Names[:cap(i.Names)]
		for n := range l {
			l[n] = "spoilt"
		}
	}
	for _, p := range q.Preds {
		spoil(p.L)
		spoil(p.R)
	}
	clear(q.Items[:cap(q.Items)])
	clear(q.Preds[:cap(q.Preds)])
}

// P3: an expression that is as it is comes out in memory of its own, its spare room too.
func TestAsItIs(t *testing.T) {
	for kind := -1; kind < 11; kind++ {
		for n := range 4 {
			make := func() api.Expr {
				x := api.Expr{Kind: kind, Kids: slices.Repeat([]api.Expr{two(api.ExAdd, field(), num(1))}, n)}
				return widened(two(api.ExAdd, widened(x), field()))
			}
			x, want := make(), make()
			one, other := norm.Fold(x), norm.Fold(x.Kids[0])
			if cleaned := cleanExpr(want); !reflect.DeepEqual(cleanExpr(one), cleaned) || !reflect.DeepEqual(cleanExpr(other), cleaned.Kids[0]) {
				t.Errorf("%v %v", one, other)
			}
			spoil(one)
			spoil(other)
			if !reflect.DeepEqual(x, want) || !reflect.DeepEqual(whole(x), whole(want)) {
				t.Errorf("%v is not %v", whole(x), whole(want))
			}
		}
	}
}

// P3: no two lists of one answer share memory, be they one list in what was handed in.
func TestListsApart(t *testing.T) {
	part := two(api.ExSub, field(), two(api.ExAdd, num(1), num(2)))
	three := api.Expr{Kind: api.ExAdd, Kids: []api.Expr{part, part, part}}
	for _, x := range []api.Expr{two(api.ExAdd, part, part), two(api.ExAdd, two(api.ExSub, part, part), part), two(api.ExSub, three, three)} {
		got, want := norm.Fold(x), cleanExpr(norm.Fold(x))
		first := got.Kids[0]
		spoil(first)
		if !reflect.DeepEqual(cleanExpr(got.Kids[1]), want.Kids[1]) {
			t.Errorf("%v is not %v", got.Kids[1], want.Kids[1])
		}
	}
	q := parsed(t, "seq a x then a y where x.v = 1 within 5")
	q.Items[1].Names = q.Items[0].Names
	q.Preds = []api.Pred{{Cmp: api.Eq, L: part, R: two(api.ExAdd, part, part)}, {Cmp: api.Gt, L: part, R: part}}
	n := norm.Norm(q)
	want := tree.Print(n)
	for i := range n.Items {
		_ = append(n.Items[i].Names, "spoilt", "spoilt")
	}
	for _, p := range n.Preds {
		for _, l := range append(whole(p.L), whole(p.R)...) {
			_ = append(l, api.Expr{}, api.Expr{})
		}
	}
	_, _ = append(n.Items, api.Item{}, api.Item{}), append(n.Preds, api.Pred{}, api.Pred{})
	n.Items[0].Names[0] = "c"
	spoil(n.Preds[0].L)
	n.Preds[0].L = norm.Fold(part)
	if got := tree.Print(n); got != strings.Replace(want, "seq a", "seq c", 1) {
		t.Errorf("%q is not %q", got, want)
	}
}

// P3: the same answers come, whatever was asked in between.
func TestSameAgain(t *testing.T) {
	for range 2 {
		for s, want := range normal {
			q := parsed(t, s)
			one, other := norm.Norm(q), norm.Norm(q)
			spoilQuery(one)
			if got := tree.Print(other); got != want {
				t.Errorf("%q is not %q", got, want)
			}
			for s, want := range places {
				if got := norm.Place(wide(t), pred(t, s)); got != want {
					t.Errorf("%s: %d is not %d", s, got, want)
				}
			}
			folds(t, pred(t, "1 + 2 - x.v = 1").L, pred(t, "3 - x.v = 1").L)
			for _, p := range q.Preds {
				norm.Fold(p.L)
			}
		}
	}
}

// P3: calls that are made at once see nothing of one another.
func TestAtOnce(t *testing.T) {
	q, items := roomy(t), wide(t)
	p := pred(t, "1 + (2 + k.v) = y.v")
	var all sync.WaitGroup
	for n := range 8 {
		all.Go(func() {
			r := dice(n)
			for range 200 {
				own := r.query()
				if got, want := norm.Norm(own), sketchNorm(own); !same(got, want) || tree.Print(norm.Norm(q)) != roomyNorm {
					t.Errorf("%q is not %q", tree.Print(got), tree.Print(want))
				}
				if norm.Place(items, p) != 7 || !reflect.DeepEqual(norm.Fold(q.Preds[0].R), num(1)) {
					t.Error("not the same at once")
				}
			}
		})
	}
	all.Wait()
}
