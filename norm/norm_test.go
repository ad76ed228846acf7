package norm_test

import (
	"reflect"
	"slices"
	"strings"
	"testing"

	"augury/api"
	"augury/norm"
	"augury/tree"
)

// parsed is a text's query.
func parsed(t testing.TB, text string) api.Query {
	t.Helper()
	q, e, at := tree.Parse(text)
	if e != api.OK {
		t.Fatal(text, e, at)
	}
	return q
}

// pred is that of a text.
func pred(t testing.TB, text string) api.Pred {
	t.Helper()
	return parsed(t, "seq a x where "+text+" within 1").Preds[0]
}

// clean is a query whose empty lists are nil, so that alike ones are equal.
func clean(q api.Query) api.Query {
	out := api.Query{Within: q.Within, By: q.By, Pick: q.Pick}
	for _, i := range q.Items {
		i.Names = append([]string(nil), i.Names...)
		out.Items = append(out.Items, i)
	}
	for _, p := range q.Preds {
		out.Preds = append(out.Preds, api.Pred{Cmp: p.Cmp, L: cleanExpr(p.L), R: cleanExpr(p.R)})
	}
	return out
}

func cleanExpr(x api.Expr) api.Expr {
	out := x
	out.Kids = nil
	for _, k := range x.Kids {
		out.Kids = append(out.Kids, cleanExpr(k))
	}
	return out
}

func same(a, b api.Query) bool { return reflect.DeepEqual(clean(a), clean(b)) }

// wide is a query with more items than may be: x and n are Vars of two each.
func wide(t testing.TB) api.Query {
	var q api.Query
	for _, s := range []string{"a x", "a y+", "not a n", "a w?", "b x", "a z", "b n", "a k"} {
		q.Items = append(q.Items, parsed(t, "seq a first then "+s+" within 1").Items[1])
	}
	return q
}

// places are predicates, and where they are asked in wide.
var places = map[string]int{
	// None is named.
	"1 = 2": 0, "'x.v' != 'y'": 0, "true = false": 0, "1 + 2 - (3 - 4) < 5": 0,
	// One is, on one side or on both, by each kind of an expression.
	"x.v = 1": 0, "1 = x.v": 0, "x.v = x.w": 0,
	"y.v = 1": 1, "1 = y.v": 1, "y.v = y.v": 1, "count(y) = 1": 1, "sum(y.v) = 1": 1, "min(y.v) = 1": 1, "1 = max(y.v)": 1, "1 = count(y)": 1,
	"n.v = 1": 2, "1 = n.v": 2, "count(n) = 1": 2, "1 < sum(n.v)": 2,
	"w.v = 1": 3, "1 = w.v": 3, "z.v = 1": 5, "1 = z.v": 5, "k.v = 1": 7, "1 = k.v": 7,
	// Some are, on either side, the last one anywhere.
	"x.v = y.v": 1, "y.v = x.v": 1, "y.v = n.v": 2, "n.v = y.v": 2, "k.v = x.v": 7, "x.v = k.v": 7, "w.v = z.v": 5, "z.v = w.v": 5,
	"x.v + y.v = 1": 1, "y.v - x.v = 1": 1, "1 = x.v - y.v": 1, "1 = y.v + x.v": 1, "x.v + y.v = w.v": 3, "w.v = x.v + y.v": 3, "x.v + w.v = y.v": 3, "y.v = w.v + x.v": 3,
	"1 + (2 + (3 - (4 + z.v))) = x.v": 5, "x.v = 1 + (2 + (3 - (4 + z.v)))": 5, "z.v + 1 - y.v - x.v = w.v": 5, "count(k) - sum(z.v) >= max(y.v) + 1": 7, "min(y.v) <= count(w) + (count(x) - count(z))": 5,
	// What has no item is none.
	"v.x = 1": 0, "1 = a.v": 0, "xx.v = first.v": 0, "count(a) = sum(v.v)": 0, "v.x = y.v": 1, "w.v = v.x": 3, "a.v + z.v = v.k": 5, "y.k = v.k - n.k": 2,
}

// P10.1, J1: the place of a predicate is that of the last item that it names, on either side.
func TestPlace(t *testing.T) {
	q := wide(t)
	for s, want := range places {
		for _, cmp := range []int{-1, 0, api.Eq, api.Lt, api.Ge, 7} {
			p := pred(t, s)
			p.Cmp = cmp
			if got := norm.Place(q, p); got != want {
				t.Errorf("%s: %d is not %d", s, got, want)
			}
		}
	}
}

// P10.1, J1: of a right query, with each of its items named last.
func TestPlaceOfSix(t *testing.T) {
	q := parsed(t, "seq a x1 then a x2 then not a x3 then a x4 then a x5 then a x6 within 1")
	for l := range 7 {
		for r := range 7 {
			side := func(n int) api.Expr { return api.Expr{Kind: api.ExField, Var: "x" + string(rune('0'+n)), Field: "v"} }
			want := max(0, l-1, r-1)
			if got := norm.Place(q, api.Pred{Cmp: api.Eq, L: side(l), R: side(r)}); got != want {
				t.Errorf("%d %d: %d is not %d", l, r, got, want)
			}
		}
	}
}

// P10.1, J1: without items, or with nothing that is named, it is 0.
func TestPlaceOfNothing(t *testing.T) {
	for s := range places {
		for _, q := range []api.Query{{}, {Items: []api.Item{}}, {Items: []api.Item{{Var: "zz"}, {Var: "yy"}}}} {
			if got := norm.Place(q, pred(t, s)); got != 0 {
				t.Errorf("%s: %d", s, got)
			}
		}
	}
	for _, kind := range []int{-1, 0, api.ExVal, api.ExAdd, api.ExSub, 9} {
		x := api.Expr{Kind: kind, Var: "k", Field: "v"}
		if got := norm.Place(wide(t), api.Pred{L: x, R: x}); got != 0 {
			t.Errorf("%v: %d", x, got)
		}
	}
}

// P10.1, J1: Kids that are not two name what they name.
func TestPlaceOfKids(t *testing.T) {
	named := pred(t, "x.v = 1").L
	for n := range 5 {
		for at := range n {
			kids := slices.Repeat([]api.Expr{named}, n)
			kids[at] = pred(t, "w.v = 1").L
			x := api.Expr{Kind: api.ExSub, Kids: kids}
			if norm.Place(wide(t), api.Pred{L: x, R: named}) != 3 || norm.Place(wide(t), api.Pred{L: named, R: x}) != 3 {
				t.Error(n, at)
			}
		}
	}
}

// normal are queries, and their normal forms.
var normal = map[string]string{
	// The document's own example, and the given ones.
	"seq b a where a.x >= 1 + 2 within 5":                                   "seq b a where 3 <= a.x within 5 pick any",
	"seq a x then b y where y.v >= 1 + 2 and x.v = 4 and 3 <= y.v within 5": "seq a x then b y where x.v = 4 and 3 <= y.v within 5 pick any",
	"seq a x where x.v > x.w and 1 = 1 and x.v != x.w within 5":             "seq a x where 1 = 1 and x.v != x.w and x.w < x.v within 5 pick any",
	"seq a x where 1 + 2 - x.v = 1099511627776 + 1 - 2 within 5 pick next":  "seq a x where 3 - x.v = 1099511627776 + 1 - 2 within 5 pick next",
	// No Preds: all is as it was.
	"seq a x within 0": "seq a x within 0 pick any",
	"seq a or b x+ then not c or a n then b or c or d y? then a z within 1099511627776 by id pick strict": "seq a or b x+ then not c or a n then b or c or d y? then a z within 1099511627776 by id pick strict",
	"seq b or a x then not d or c n where 1 = 1 within 7 by x pick next":                                  "seq b or a x then not d or c n where 1 = 1 within 7 by x pick next",
	// Each comparison: two are turned about.
	"seq a x where x.v = 1 within 5":  "seq a x where x.v = 1 within 5 pick any",
	"seq a x where x.v != 1 within 5": "seq a x where x.v != 1 within 5 pick any",
	"seq a x where x.v < 1 within 5":  "seq a x where x.v < 1 within 5 pick any",
	"seq a x where x.v <= 1 within 5": "seq a x where x.v <= 1 within 5 pick any",
	"seq a x where x.v > 1 within 5":  "seq a x where 1 < x.v within 5 pick any",
	"seq a x where x.v >= 1 within 5": "seq a x where 1 <= x.v within 5 pick any",
	"seq a x where 1 > x.v within 5":  "seq a x where x.v < 1 within 5 pick any",
	"seq a x where 1 >= x.v within 5": "seq a x where x.v <= 1 within 5 pick any",
	"seq a x where 1 = x.v within 5":  "seq a x where 1 = x.v within 5 pick any",
	// Sides that fold, on the left, the right, and both, turned about and not.
	"seq a x where 1 + 1 = x.v within 5":                           "seq a x where 2 = x.v within 5 pick any",
	"seq a x where x.v = 1 - 2 within 5":                           "seq a x where x.v = -1 within 5 pick any",
	"seq a x where 1 + 2 != 3 - 1 within 5":                        "seq a x where 3 != 2 within 5 pick any",
	"seq a x where 1 + 2 > 3 - 1 within 5":                         "seq a x where 2 < 3 within 5 pick any",
	"seq a x where x.v - (3 - 1) >= 1 + (2 + x.w) within 5":        "seq a x where 1 + (2 + x.w) <= x.v - 2 within 5 pick any",
	"seq a x where 1 + 2 + x.v > x.w + 1 + 2 within 5":             "seq a x where x.w + 1 + 2 < 3 + x.v within 5 pick any",
	"seq a x where 1 - (2 - (3 - (4 - (5 - 6)))) = x.v within 5":   "seq a x where -3 = x.v within 5 pick any",
	"seq a x where 'a' + 'b' = x.s and true - 1 = x.t within 5":    "seq a x where 'a' + 'b' = x.s and true - 1 = x.t within 5 pick any",
	"seq a x where 1099511627776 + 1 <= 0 - 1 within 5":            "seq a x where 1099511627776 + 1 <= -1 within 5 pick any",
	"seq a x where -1099511627776 - (2 - 1) > x.v - 0 within 5":    "seq a x where x.v - 0 < -1099511627776 - 1 within 5 pick any",
	"seq a x where count(x) + (1 + 1) >= max(x.v) - 2 within 5":    "seq a x where max(x.v) - 2 <= count(x) + 2 within 5 pick any",
	"seq a x where (1 + (2 + (3 + (4 + (5 + 6))))) > 1 within 5":   "seq a x where 1 < 21 within 5 pick any",
	"seq a x where x.v = 1099511627775 + 1 + 0 - 1 - 0 within 5":   "seq a x where x.v = 1099511627775 within 5 pick any",
	"seq a x where x.v + (1 + 2) - (3 + 4) = 1 within 5 pick next": "seq a x where x.v + 3 - 7 = 1 within 5 pick next",
	// Alike as they stand, only when folded, only when turned about.
	"seq a x where x.v = 1 and x.v = 1 within 5":                                        "seq a x where x.v = 1 within 5 pick any",
	"seq a x where x.v = 1 and x.w = 1 and x.v = 1 and x.w = 1 within 5":                "seq a x where x.v = 1 and x.w = 1 within 5 pick any",
	"seq a x where x.v = 1 + 1 and x.v = 2 and x.v = 3 - 1 within 5":                    "seq a x where x.v = 2 within 5 pick any",
	"seq a x where x.v < 3 and 3 > x.v within 5":                                        "seq a x where x.v < 3 within 5 pick any",
	"seq a x where 3 >= x.v and x.v <= 3 within 5":                                      "seq a x where x.v <= 3 within 5 pick any",
	"seq a x where 1 + 2 >= x.v and x.v <= 4 - 1 and 3 >= x.v within 5":                 "seq a x where x.v <= 3 within 5 pick any",
	"seq a x where 1 < 1 and 1 > 1 and 1 = 1 and 1 != 1 and 1 <= 1 and 1 >= 1 within 5": "seq a x where 1 != 1 and 1 < 1 and 1 <= 1 and 1 = 1 within 5 pick any",
	// Not alike: sides that stand the other way, Eq and Ne are not turned about.
	"seq a x where x.v = 1 and 1 = x.v within 5":          "seq a x where 1 = x.v and x.v = 1 within 5 pick any",
	"seq a x where x.v != x.w and x.w != x.v within 5":    "seq a x where x.v != x.w and x.w != x.v within 5 pick any",
	"seq a x where x.v < x.w and x.v > x.w within 5":      "seq a x where x.v < x.w and x.w < x.v within 5 pick any",
	"seq a x where x.v <= x.w and x.v < x.w within 5":     "seq a x where x.v < x.w and x.v <= x.w within 5 pick any",
	"seq a x where 1 = 2 and '1' = '2' within 5":          "seq a x where '1' = '2' and 1 = 2 within 5 pick any",
	"seq a x where x.v + 1 = 2 and 1 + x.v = 2 within 5":  "seq a x where 1 + x.v = 2 and x.v + 1 = 2 within 5 pick any",
	"seq a x where 'true' = 'a' and true = true within 5": "seq a x where 'true' = 'a' and true = true within 5 pick any",
	// Of one place their texts say the order, byte by byte.
	"seq a x where x.v = 9 and x.v = 10 and x.v = 1 within 5":                                            "seq a x where x.v = 1 and x.v = 10 and x.v = 9 within 5 pick any",
	"seq a x where x.v = 1 and x.v = -1 and x.v = 'a' and x.v = 0 within 5":                              "seq a x where x.v = 'a' and x.v = -1 and x.v = 0 and x.v = 1 within 5 pick any",
	"seq a x where x.w = 1 and x.v = 2 and count(x) = 3 and x.v < 1 and 7 = x.v within 5":                "seq a x where 7 = x.v and count(x) = 3 and x.v < 1 and x.v = 2 and x.w = 1 within 5 pick any",
	"seq a x where sum(x.v) = 1 and min(x.v) = 1 and max(x.v) = 1 and count(x) = 1 and x.v = 1 within 5": "seq a x where count(x) = 1 and max(x.v) = 1 and min(x.v) = 1 and sum(x.v) = 1 and x.v = 1 within 5 pick any",
	"seq a x where x.v = 'b' and x.v = 'a~' and x.v = 'a' and x.v = 'a a' and x.v = '' within 5":         "seq a x where x.v = '' and x.v = 'a a' and x.v = 'a' and x.v = 'a~' and x.v = 'b' within 5 pick any",
	// One is the beginning of another: what stands behind it in the query's text tells.
	"seq a x where x.v = 1 and x.v = 1 + x.w within 5":                           "seq a x where x.v = 1 + x.w and x.v = 1 within 5 pick any",
	"seq a x where x.v = x.w and x.v = x.w - 1 within 5":                         "seq a x where x.v = x.w - 1 and x.v = x.w within 5 pick any",
	"seq a x where x.v = x.w1 and x.v = x.w within 5":                            "seq a x where x.v = x.w and x.v = x.w1 within 5 pick any",
	"seq a x where x.v = x.w and x.v = x.w + 1 and x.v = x.w + 1 - x.w within 5": "seq a x where x.v = x.w + 1 - x.w and x.v = x.w + 1 and x.v = x.w within 5 pick any",
	"seq a x where x.v > 1 + 1 and 2 < x.v + 1 within 5":                         "seq a x where 2 < x.v + 1 and 2 < x.v within 5 pick any",
	// Of several places, the place comes ahead of the text.
	"seq a x then b y where y.v = 1 and x.v = 1 within 5":                                        "seq a x then b y where x.v = 1 and y.v = 1 within 5 pick any",
	"seq a y then b x where y.v = 1 and x.v = 1 within 5":                                        "seq a y then b x where y.v = 1 and x.v = 1 within 5 pick any",
	"seq a y then b x where x.v = 1 and y.v = 1 within 5":                                        "seq a y then b x where y.v = 1 and x.v = 1 within 5 pick any",
	"seq a z then b y then c x where 1 = x.v and 1 = z.v and 1 = y.v within 5":                   "seq a z then b y then c x where 1 = z.v and 1 = y.v and 1 = x.v within 5 pick any",
	"seq a x then b y where 1 = y.v and x.v = 2 and 1 = 1 and x.v > y.v and z.v = 1 within 5":    "seq a x then b y where 1 = 1 and x.v = 2 and z.v = 1 and 1 = y.v and y.v < x.v within 5 pick any",
	"seq a z then not b n then c x where n.v > z.v and x.v = 1 and n.v = 1 and z.v = 1 within 5": "seq a z then not b n then c x where z.v = 1 and n.v = 1 and z.v < n.v and x.v = 1 within 5 pick any",
}

// P10.1, J3: queries and their normal forms; P10.2: the normal form of one is it.
func TestNorm(t *testing.T) {
	for s, want := range normal {
		for range 2 {
			n := norm.Norm(parsed(t, s))
			if got := tree.Print(n); got != want || !same(n, parsed(t, want)) {
				t.Errorf("%q is not %q", got, want)
			}
			if !same(norm.Norm(n), n) {
				t.Errorf("%q", tree.Print(norm.Norm(n)))
			}
			s = want
		}
	}
}

// orders calls do with every order of l.
func orders[T any](l []T, do func(l []T)) {
	var put func(ahead, left []T)
	put = func(ahead, left []T) {
		if len(left) == 0 {
			do(ahead)
		}
		for i := range left {
			put(append(slices.Clone(ahead), left[i]), append(slices.Clone(left[:i]), left[i+1:]...))
		}
	}
	put(nil, l)
}

// P10.1, J3 and P10.2: predicates in every order, of one place and of several, have one normal form.
func TestEveryOrder(t *testing.T) {
	for _, s := range []string{
		"seq a z then b y then not c n then d x where 1 = 1 and z.v = 1 and 1 < y.v and y.v = z.v and 1 = n.v and n.v = 1 and x.v = 1 within 5 pick any",
		"seq a x where 'a' = x.s and 1 < x.v and max(x.v) = 1 and x.v = 1 + x.w and x.v = 1 and x.v = 10 and x.v = 9 within 5 pick any",
		"seq a x then b w where x.v = 1 + x.w and x.v = 1 and w.v = 1 - x.v and w.v = 1 and x.v = w.v within 5 by id pick next",
		"seq a x6 then a x5 then a x4 then a x3 then a x2 then a x1 where x6.v = 1 and x5.v = 1 and x4.v = 1 and x3.v = 1 and x2.v = 1 and x1.v = 1 within 5 pick any",
	} {
		q := parsed(t, s)
		orders(q.Preds, func(l []api.Pred) {
			one := q
			one.Preds = l
			if got := norm.Norm(one); tree.Print(got) != s {
				t.Fatalf("%q is not %q", tree.Print(got), s)
			}
		})
	}
}

// P10.1, J3: a query that is not right has none.
func TestNotRight(t *testing.T) {
	for i, change := range []func(q *api.Query){
		func(q *api.Query) { *q = api.Query{} },
		func(q *api.Query) { q.Items = nil },
		func(q *api.Query) { q.Items = []api.Item{} },
		func(q *api.Query) { q.Items = slices.Repeat(q.Items, 4) },
		func(q *api.Query) { q.Items[0].Not = true },
		func(q *api.Query) { q.Items[0].Mode = api.Opt },
		func(q *api.Query) { q.Items[1].Mode = 0 },
		func(q *api.Query) { q.Items[1].Var = "x" },
		func(q *api.Query) { q.Items[1].Var = "seq" },
		func(q *api.Query) { q.Items[1].Names = nil },
		func(q *api.Query) { q.Items[1].Names = []string{"b", "b"} },
		func(q *api.Query) { q.Items[1].Names = []string{"a", "b", "c", "d"} },
		func(q *api.Query) { q.Preds = slices.Repeat(q.Preds, 9) },
		func(q *api.Query) { q.Preds[0].Cmp = 0 },
		func(q *api.Query) { q.Preds[0].Cmp = 7 },
		func(q *api.Query) { q.Preds[0].L.Kids = nil },
		func(q *api.Query) { q.Preds[0].L.Kids = q.Preds[0].L.Kids[:1] },
		func(q *api.Query) { q.Preds[0].L.Kids = slices.Repeat(q.Preds[0].L.Kids, 2) },
		func(q *api.Query) { q.Preds[0].R = api.Expr{Kind: 9} },
		func(q *api.Query) { q.Preds[0].R = api.Expr{} },
		func(q *api.Query) { q.Preds[0].R = deep(7) },
		func(q *api.Query) { q.Preds[0].R.Val.S = "a" },
		func(q *api.Query) { q.Within = -1 },
		func(q *api.Query) { q.Within = api.MaxNum + 1 },
		func(q *api.Query) { q.By = "By" },
		func(q *api.Query) { q.Pick = 0 },
		func(q *api.Query) { q.Pick = 4 },
	} {
		q := parsed(t, "seq a x then b y where 1 + 2 > 3 within 5 by id")
		change(&q)
		if n := norm.Norm(q); !reflect.ValueOf(clean(n)).IsZero() {
			t.Errorf("%d: %v", i, n)
		}
	}
}

// deep is an expression so deep, that makes that number.
func deep(n int) api.Expr {
	x := num(1)
	for range n - 1 {
		x = two(api.ExAdd, x, num(1))
	}
	return x
}

// P10.1, J3: predicates as many, sides as deep, and items as many as may be.
func TestMost(t *testing.T) {
	q := parsed(t, "seq a or b or c x then b y then c z then not a n then b w then d k within 5")
	for i := range 8 {
		q.Preds = append(q.Preds, api.Pred{Cmp: api.Gt, L: deep(6), R: two(api.ExSub, deep(5), num(int64(i%3)))})
	}
	want := "seq a or b or c x then b y then c z then not a n then b w then d k where 3 < 6 and 4 < 6 and 5 < 6 within 5 pick any"
	if got := tree.Print(norm.Norm(q)); got != want {
		t.Errorf("%q is not %q", got, want)
	}
	// Texts that are longer than one that can be read say an order too.
	long := func(s string) api.Expr {
		x := api.Expr{Kind: api.ExVal, Val: api.Val{Kind: api.Text, S: strings.Repeat("q", 60) + s}}
		y := x
		for range 5 {
			y = two(api.ExAdd, y, x)
		}
		return y
	}
	q.Preds = nil
	for _, s := range []string{"c", "a", "d", "b", "aa", "a"} {
		q.Preds = append(q.Preds, api.Pred{Cmp: api.Eq, L: long("x"), R: long(s)})
	}
	n := norm.Norm(q)
	var got []string
	for _, p := range n.Preds {
		got = append(got, p.R.Kids[1].Val.S[60:])
	}
	if want := []string{"a", "aa", "b", "c", "d"}; !slices.Equal(got, want) {
		t.Errorf("%v is not %v", got, want)
	}
}
