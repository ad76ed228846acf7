package eval_test

import (
	"math"
	"slices"
	"testing"

	"augury/api"
	"augury/eval"
	"augury/norm"
)

// holds asks whether a predicate does, of what is bound to wide.
func holds(t *testing.T, b [][]api.Event, p api.Pred, want bool) {
	t.Helper()
	if got := eval.Holds(world(), wide(t), b, p); got != want {
		t.Errorf("%s: %v", toldPred(p), got)
	}
}

// held are predicates, and whether they hold.
var held = map[string]bool{
	// Each comparison, of less, equal and greater.
	"1 = 2": false, "1 = 1": true, "2 = 1": false, "1 != 2": true, "1 != 1": false, "2 != 1": true, "1 < 2": true, "1 < 1": false, "2 < 1": false, "1 <= 2": true, "1 <= 1": true, "2 <= 1": false, "1 > 2": false, "1 > 1": false, "2 > 1": true, "1 >= 2": false, "1 >= 1": true, "2 >= 1": true,
	"'a' = 'b'": false, "'a' = 'a'": true, "'a' != 'b'": true, "'a' != 'a'": false, "'a' < 'ab'": true, "'b' < 'ab'": false, "'a' <= 'a'": true, "'ab' <= 'a'": false, "'b' > 'ab'": true, "'a' > 'a'": false, "'' >= ''": true, "'' >= 'a'": false,
	"true = true": true, "true = false": false, "true != false": true, "false != false": false, "true > false": false, "false < true": false, "true >= true": false, "false <= false": false,
	// Of what is bound.
	"x.v = 3": true, "x.v != 3": false, "x.v < x.w": true, "x.w < x.v": false, "y.v = 5": true, "y.v = 7": false, "sum(y.v) = 10": true, "sum(y.v) > 10": false, "count(y) >= 3": true, "min(y.v) < x.v": true, "max(y.v) + min(y.v) = y.v": true, "y.s > x.s": true, "y.t = x.t": true, "count(n) = 0": true, "count(k) > 0": false, "z.v = 1099511627776": true, "z.w + z.v = 0": true,
	// Nothing is bound, or there is no such field: on the left, on the right, on both sides.
	"n.v = 1": true, "1 = n.v": true, "n.v = n.v": true, "n.v != n.v": true, "n.v = k.v": true, "o.v < 1": true, "1 > sum(k.v)": true, "x.q = 1": true, "'a' < x.u": true, "y.w >= y.w": true, "n.v + 1 = 'a'": true, "'a' > 1 + n.v": true, "true < n.v": true, "n.v <= false": true,
	// Beside another error, on either side.
	"n.v = q.v": true, "q.v = n.v": true, "n.v = sum(z.v)": true, "sum(z.v) != n.v": true, "x.s + 1 = n.v": true, "n.v < 'a' + 1": true, "1099511627776 + 1 > n.v": true,
	// An error that is within one side goes by what that side is worth.
	"n.v + q.v = 1": true, "q.v + n.v = 1": false, "1 = n.v + q.v": true, "1 = q.v + n.v": false, "'a' + 1 + n.v = 1": false, "'a' + (1 + n.v) = 1": true,
	// Another error on the left, on the right, on both sides, of each comparison.
	"q.v = 1": false, "1 = q.v": false, "q.v = q.v": false, "q.v != 1": false, "1 != q.v": false, "q.v < 1": false, "1 <= q.v": false, "q.v > 1": false, "1 >= q.v": false, "sum(z.v) = 1": false, "1 < sum(z.v)": false, "sum(z.v) = sum(z.v)": false, "sum(x.s) != 1": false, "1 != sum(x.s)": false, "'a' + 1 != 'a'": false, "1 != true + 1": false, "count(q) = 0": false, "1099511627776 + 1 > 0": false, "q.v = sum(z.v)": false,
	// Sides of unlike kinds.
	"1 = 'a'": false, "1 != 'a'": false, "'1' = 1": false, "'1' != 1": false, "true = 1": false, "true != 1": false, "1 != true": false, "'true' != true": false, "1 < 'a'": false, "'a' > 1": false, "x.s != x.v": false, "x.t = y.v": false, "x.t != y.s": false, "1 <= true": false,
}

// P11.1, K2: whether predicates of the language hold.
func TestHolds(t *testing.T) {
	for s, want := range held {
		holds(t, bound(), pred(t, s), want)
	}
}

// P11.1, K2: each comparison, and what is none, of each kind of sides.
func TestComparisons(t *testing.T) {
	sides := map[string][]api.Expr{
		"less":    {num(1), of(api.ExField, "x", "v"), val(text("a")), of(api.ExMin, "y", "v"), num(-most)},
		"more":    {num(2), of(api.ExField, "x", "w"), val(text("b")), of(api.ExMax, "y", "v"), num(most)},
		"other":   {val(truth(0)), val(truth(1)), of(api.ExField, "x", "t")},
		"wrong":   {of(api.ExField, "q", "v"), {}, {Kind: api.ExAdd}, val(api.Val{}), of(api.ExSum, "z", "v"), of(api.ExSum, "x", "s"), two(api.ExSub, num(-most), num(1))},
		"nothing": {of(api.ExField, "n", "v"), of(api.ExMax, "k", "v"), of(api.ExField, "x", "u"), two(api.ExAdd, of(api.ExField, "n", "v"), api.Expr{})},
	}
	for cmp := -1; cmp < 9; cmp++ {
		among := func(l ...int) bool { return slices.Contains(l, cmp) }
		for i := range sides["less"] {
			less, more := sides["less"][i], sides["more"][i]
			holds(t, bound(), api.Pred{Cmp: cmp, L: less, R: less}, among(api.Eq, api.Le, api.Ge))
			holds(t, bound(), api.Pred{Cmp: cmp, L: less, R: more}, among(api.Ne, api.Lt, api.Le))
			holds(t, bound(), api.Pred{Cmp: cmp, L: more, R: less}, among(api.Ne, api.Gt, api.Ge))
		}
		for _, x := range sides["other"] {
			holds(t, bound(), api.Pred{Cmp: cmp, L: x, R: x}, among(api.Eq))
			holds(t, bound(), api.Pred{Cmp: cmp, L: x, R: num(1)}, false)
			holds(t, bound(), api.Pred{Cmp: cmp, L: val(text("")), R: x}, false)
		}
		holds(t, bound(), api.Pred{Cmp: cmp, L: val(truth(0)), R: val(truth(1))}, among(api.Ne))
		for _, l := range sides {
			for _, x := range l {
				for _, w := range sides["wrong"] {
					want := slices.ContainsFunc(sides["nothing"], func(n api.Expr) bool { return same(n, x) })
					holds(t, bound(), api.Pred{Cmp: cmp, L: x, R: w}, want)
					holds(t, bound(), api.Pred{Cmp: cmp, L: w, R: x}, want)
				}
				for _, n := range sides["nothing"] {
					holds(t, bound(), api.Pred{Cmp: cmp, L: x, R: n}, true)
					holds(t, bound(), api.Pred{Cmp: cmp, L: n, R: x}, true)
				}
			}
		}
	}
	for _, cmp := range []int{math.MinInt, math.MaxInt, 1 << 32, 1<<32 + api.Eq} {
		holds(t, bound(), api.Pred{Cmp: cmp, L: num(1), R: num(1)}, false)
		holds(t, bound(), api.Pred{Cmp: cmp, L: num(1), R: of(api.ExField, "n", "v")}, true)
	}
}

// P11.1, K2: a field's value that is not right is another error.
func TestHoldsNotRight(t *testing.T) {
	for _, v := range odd() {
		b := [][]api.Event{{has(v)}}
		for cmp := range 8 {
			holds(t, b, api.Pred{Cmp: cmp, L: expr(t, "x.v"), R: expr(t, "x.v")}, false)
			holds(t, b, api.Pred{Cmp: cmp, L: num(1), R: expr(t, "x.v")}, false)
			holds(t, b, api.Pred{Cmp: cmp, L: expr(t, "x.v"), R: expr(t, "n.v")}, true)
		}
	}
}

// allText is a query's with places of no predicate, of one, and of some.
const allText = "seq a x then a y+ then not a n then a z? then a k then a o where 1 = 1 and x.v = 1 and x.v < x.w and y.v > x.v and sum(y.v) = 9 and n.v = x.v and k.v = z.v + 1 within 5"

// P11.1, K2: all of a place, of what is bound so far.
func TestAll(t *testing.T) {
	q := parsed(t, allText)
	ab := func(v, w int64) api.Event { return made("a", integer(v), integer(w)) }
	for i, c := range []struct {
		b    [][]api.Event
		want [6]bool
	}{
		// Of what is bound to nothing all holds.
		{nil, [6]bool{true, true, true, true, true, true}},
		{[][]api.Event{{ab(1, 2)}}, [6]bool{true, true, true, true, true, true}},
		// Each of those of a place is broken, and both.
		{[][]api.Event{{ab(2, 3)}}, [6]bool{false, true, true, true, true, true}},
		{[][]api.Event{{ab(1, 1)}}, [6]bool{false, true, true, true, true, true}},
		{[][]api.Event{{ab(2, 2)}}, [6]bool{false, true, true, true, true, true}},
		{[][]api.Event{{ab(1, 2)}, {ab(9, 0)}}, [6]bool{true, true, true, true, true, true}},
		{[][]api.Event{{ab(1, 2)}, {ab(4, 0), ab(5, 0)}}, [6]bool{true, true, true, true, true, true}},
		{[][]api.Event{{ab(1, 2)}, {ab(8, 0), ab(1, 0)}}, [6]bool{true, false, true, true, true, true}},
		{[][]api.Event{{ab(1, 2)}, {ab(4, 0)}}, [6]bool{true, false, true, true, true, true}},
		{[][]api.Event{{ab(1, 2)}, {ab(0, 0)}}, [6]bool{true, false, true, true, true, true}},
		// One of the first place, and one of the second one.
		{[][]api.Event{{ab(0, 2)}, {ab(9, 0)}}, [6]bool{false, true, true, true, true, true}},
		{[][]api.Event{{ab(9, 2)}, {ab(9, 0)}}, [6]bool{false, false, true, true, true, true}},
		// A Not is asked as others are.
		{[][]api.Event{{ab(1, 2)}, {ab(9, 0)}, {ab(1, 0)}}, [6]bool{true, true, true, true, true, true}},
		{[][]api.Event{{ab(1, 2)}, {ab(9, 0)}, {ab(2, 0)}}, [6]bool{true, true, false, true, true, true}},
		// What was left out is nothing.
		{[][]api.Event{{ab(1, 2)}, {ab(9, 0)}, nil, nil, {ab(7, 0)}}, [6]bool{true, true, true, true, true, true}},
		{[][]api.Event{{ab(1, 2)}, {ab(9, 0)}, nil, {ab(6, 0)}, {ab(7, 0)}}, [6]bool{true, true, true, true, true, true}},
		{[][]api.Event{{ab(1, 2)}, {ab(9, 0)}, nil, {ab(7, 0)}, {ab(7, 0)}}, [6]bool{true, true, true, true, false, true}},
		{[][]api.Event{{ab(1, 2)}, {ab(9, 0)}, nil, {ab(most, 0)}, {ab(7, 0)}, {ab(0, 0)}}, [6]bool{true, true, true, true, false, true}},
	} {
		for place, want := range c.want {
			if got := eval.All(world(), q, c.b, place); got != want {
				t.Errorf("%d: of %d: %v", i, place, got)
			}
		}
		for _, place := range []int{math.MinInt, -2, -1, 6, 7, 99, math.MaxInt} {
			if !eval.All(world(), q, c.b, place) {
				t.Errorf("%d: of %d", i, place)
			}
		}
	}
}

// P11.1, K2: what names no item is of the place 0, and of no other one.
func TestAllOfNothing(t *testing.T) {
	for s, want := range map[string]bool{"1 = 1": true, "1 = 2": false, "'a' != 'a'": false, "1 + 'a' = 1": false, "q.v = 1": false, "1 = 2 - 1": true, "count(q) = 0": false} {
		q := parsed(t, "seq a x then b y where "+s+" within 5")
		for place := -3; place < 4; place++ {
			if got := eval.All(world(), q, bound(), place); got != (want || place != 0) {
				t.Errorf("%s: of %d: %v", s, place, got)
			}
		}
	}
	for _, q := range []api.Query{{}, parsed(t, "seq a x within 5"), wide(t)} {
		for place := -3; place < 9; place++ {
			if !eval.All(world(), q, bound(), place) {
				t.Error(place)
			}
		}
	}
}

// P11.1, K2: one predicate that does not hold, wherever it stands among those of its place, and others.
func TestAllOfSome(t *testing.T) {
	right, broken := []string{"y.v = 5", "count(y) = 3", "y.v > x.v", "x.s < y.s"}, pred(t, "y.v = x.v")
	for many := range len(right) + 1 {
		for at := range many + 1 {
			q := parsed(t, "seq a x then b or a y+ then a z where x.v = 9 and z.v = x.v within 5")
			q.Preds = q.Preds[:2:2]
			for _, s := range right[:many] {
				q.Preds = append(q.Preds, pred(t, s))
			}
			if !eval.All(world(), q, bound(), 1) || eval.All(world(), q, bound(), 0) {
				t.Error(many)
			}
			q.Preds = slices.Insert(q.Preds, 2+at, broken)
			if eval.All(world(), q, bound(), 1) || !eval.All(world(), q, bound(), 2) {
				t.Error(many, at)
			}
		}
	}
}

// P11.1, K2: all hold just if each of them does whose place that is, of each predicate here.
func TestAllOfEach(t *testing.T) {
	q := wide(t)
	for s, want := range held {
		q.Preds = []api.Pred{pred(t, s)}
		at := norm.Place(q, q.Preds[0])
		for place := -1; place < 9; place++ {
			if got := eval.All(world(), q, bound(), place); got != (want || place != at) {
				t.Errorf("%s: of %d: %v", s, place, got)
			}
		}
	}
}
