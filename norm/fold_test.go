package norm_test

import (
	"math"
	"reflect"
	"slices"
	"strings"
	"testing"

	"augury/api"
	"augury/norm"
)

const most = int64(1) << 40

func val(v api.Val) api.Expr { return api.Expr{Kind: api.ExVal, Val: v} }

func num(n int64) api.Expr { return val(api.Val{Kind: api.Int, N: n}) }

func two(kind int, a, b api.Expr) api.Expr { return api.Expr{Kind: kind, Kids: []api.Expr{a, b}} }

// field is an expression that cannot be reckoned ahead.
func field() api.Expr { return api.Expr{Kind: api.ExField, Var: "x", Field: "v"} }

// folds asks whether an expression is folded to that; and that to itself.
func folds(t *testing.T, x, want api.Expr) {
	t.Helper()
	if got := norm.Fold(x); !reflect.DeepEqual(cleanExpr(got), cleanExpr(want)) {
		t.Errorf("%v: %v is not %v", x, got, want)
	}
	if got := norm.Fold(want); !reflect.DeepEqual(cleanExpr(got), cleanExpr(want)) {
		t.Errorf("%v: %v", want, got)
	}
}

// stays asks whether an expression is left as it is.
func stays(t *testing.T, x api.Expr) {
	t.Helper()
	folds(t, x, x)
}

// P10.1, J2: what is not made of two is as it is, whatever its kind is, and whatever is in it.
func TestFoldKinds(t *testing.T) {
	for _, kind := range []int{math.MinInt, -1, 0, 1, 2, 3, 4, 5, 6, 9, 10, 1 << 32, math.MaxInt} {
		for n := range 5 {
			for _, kid := range []api.Expr{{}, num(1), field(), two(api.ExAdd, num(1), num(2))} {
				stays(t, api.Expr{Kind: kind, Val: api.Val{Kind: api.Int, N: 7}, Var: "x", Field: "v", Kids: slices.Repeat([]api.Expr{kid}, n)})
			}
		}
		stays(t, api.Expr{Kind: kind})
	}
}

// P10.1, J2: two values are one, if there is one of both.
func TestFoldTwo(t *testing.T) {
	for _, c := range []struct{ a, b, sum, less int64 }{
		{1, 2, 3, -1}, {2, 1, 3, 1}, {0, 0, 0, 0}, {5, 0, 5, 5}, {0, 5, 5, -5}, {-3, -4, -7, 1}, {-3, 4, 1, -7}, {3, -4, -1, 7},
		{most, 0, most, most}, {most - 1, 1, most, most - 2}, {-most, 0, -most, -most}, {1 - most, 1, 2 - most, -most}, {most / 2, most / 2, most, 0}, {most, -1, most - 1, math.MaxInt64}, {most, most, math.MaxInt64, 0}, {-most, most, 0, math.MaxInt64}, {most, -most, 0, math.MaxInt64}, {most, 1, math.MaxInt64, most - 1}, {-most, 1, 1 - most, math.MaxInt64}, {-most, -1, math.MaxInt64, 1 - most}, {0, most, most, -most}, {0, -most, -most, most}, {-1, most, most - 1, math.MaxInt64},
	} {
		for kind, n := range map[int]int64{api.ExAdd: c.sum, api.ExSub: c.less} {
			x := two(kind, num(c.a), num(c.b))
			if n == math.MaxInt64 {
				// There is no such number.
				stays(t, x)
			} else {
				folds(t, x, num(n))
			}
		}
	}
}

// odd are values of which there is neither a sum nor a difference.
func odd() []api.Val {
	return []api.Val{
		{Kind: api.Text}, {Kind: api.Text, S: "a"}, {Kind: api.Text, S: "1"}, {Kind: api.Bool}, {Kind: api.Bool, N: 1},
		{}, {N: 1}, {Kind: 4, N: 1}, {Kind: -1}, {Kind: api.Int, N: most + 1}, {Kind: api.Int, N: -most - 1}, {Kind: api.Int, N: math.MaxInt64}, {Kind: api.Int, N: math.MinInt64}, {Kind: api.Int, S: "1"}, {Kind: api.Text, N: 1}, {Kind: api.Text, S: strings.Repeat("a", 65)}, {Kind: api.Bool, N: 2},
	}
}

// P10.1, J2: of values that have no sum, or difference, two stay, with one of them on either side.
func TestFoldNoNumbers(t *testing.T) {
	for _, kind := range []int{api.ExAdd, api.ExSub} {
		for _, v := range odd() {
			stays(t, two(kind, val(v), num(1)))
			stays(t, two(kind, num(1), val(v)))
			stays(t, two(kind, num(0), val(v)))
			for _, w := range odd() {
				stays(t, two(kind, val(v), val(w)))
			}
		}
	}
}

// P10.1, J2: a value, and another expression, on either side.
func TestFoldOne(t *testing.T) {
	for _, kind := range []int{api.ExAdd, api.ExSub} {
		for other := -1; other < 11; other++ {
			for n := range 4 {
				x := api.Expr{Kind: other, Val: num(1).Val, Var: "x", Field: "v", Kids: slices.Repeat([]api.Expr{field()}, n)}
				if other == api.ExVal {
					continue
				}
				stays(t, two(kind, x, num(1)))
				stays(t, two(kind, num(1), x))
				stays(t, two(kind, x, x))
			}
		}
		// Of a value nothing but its Val is asked.
		x := api.Expr{Kind: api.ExVal, Val: num(2).Val, Var: "x", Field: "v", Kids: []api.Expr{field()}}
		folds(t, two(kind, x, num(0)), num(2))
		folds(t, two(kind, two(api.ExAdd, num(0), x), num(0)), num(2))
		folds(t, two(kind, x, x), map[int]api.Expr{api.ExAdd: num(4), api.ExSub: num(0)}[kind])
	}
}

// P10.1, J2: what is folded says nothing but its value; what is not says what it did.
func TestFoldRest(t *testing.T) {
	for _, kind := range []int{api.ExAdd, api.ExSub} {
		x := api.Expr{Kind: kind, Val: api.Val{Kind: api.Text, N: 4, S: "a"}, Var: "x", Field: "v"}
		x.Kids = []api.Expr{num(1), num(0)}
		folds(t, x, num(1))
		x.Kids = []api.Expr{field(), num(0)}
		stays(t, x)
		want := x
		x.Kids = []api.Expr{field(), two(api.ExSub, num(2), num(2))}
		folds(t, x, want)
	}
}

// P10.1, J2: Kids in one another fold step by step.
func TestFoldSteps(t *testing.T) {
	for text, want := range map[string]string{
		"1 + 2 + 3": "6", "1 + (2 + 3)": "6", "1 - 2 - 3": "-4", "1 - (2 - 3)": "2", "(1 - 2) - (3 - 4)": "0", "(1 + 2) - (3 - (4 + 5))": "9", "1 - (2 - (3 - (4 - (5 - 6))))": "-3", "6 - 5 - 4 - 3 - 2 - 1": "-9", "(1 + 2) + (3 + 4) - ((5 + 6) - (7 + 8))": "14", "0 - 0 - 0": "0",
		"1099511627776 - 1 + 1": "1099511627776", "1099511627775 + (2 - 1)": "1099511627776", "-1099511627776 + 1 - 1": "-1099511627776", "1099511627776 + (1 - 1)": "1099511627776", "1099511627776 + (1 - 2)": "1099511627775",
		// In part.
		"1 + 2 + x.v": "3 + x.v", "x.v + 1 + 2": "x.v + 1 + 2", "x.v + (1 + 2)": "x.v + 3", "1 + (2 + x.v)": "1 + (2 + x.v)", "1 + x.v + 2": "1 + x.v + 2", "(1 + 2) - (x.v - (3 + 4))": "3 - (x.v - 7)", "(1 + x.v) - (2 + 3)": "1 + x.v - 5", "(1 - 2) - (3 - x.v)": "-1 - (3 - x.v)", "x.v - x.v": "x.v - x.v", "x.v + 0": "x.v + 0", "0 + x.v": "0 + x.v", "1 + (2 + (3 + (4 + (5 + x.v))))": "1 + (2 + (3 + (4 + (5 + x.v))))", "x.v - (1 - (2 - (3 - (4 - 5))))": "x.v - 3", "1 + 2 + 3 + 4 + x.v + 5": "10 + x.v + 5",
		"count(x) + (1 + 1)": "count(x) + 2", "(1 + 1) - sum(x.v)": "2 - sum(x.v)", "min(x.v) + max(x.v)": "min(x.v) + max(x.v)",
		// As far as there is a number.
		"1099511627776 + 1 - 2": "1099511627776 + 1 - 2", "2 - (1099511627776 + 1)": "2 - (1099511627776 + 1)", "1099511627776 + (1 + 1)": "1099511627776 + 2", "(1099511627775 + 1) + (1 - 0)": "1099511627776 + 1", "-1099511627775 - 1 - 1": "-1099511627776 - 1", "1099511627776 + 1 - (1 + 1)": "1099511627776 + 1 - 2", "(1 + 1) - (-1099511627776 - 1)": "2 - (-1099511627776 - 1)",
		"'a' + (1 + 2)": "'a' + 3", "1 + 2 - 'a'": "3 - 'a'", "'a' + 'b' + (1 + 1)": "'a' + 'b' + 2", "true + (1 - 1)": "true + 0", "1 - 1 - false": "0 - false", "(1 + true) + (1 + 1)": "1 + true + 2", "1 + (1 + 'a')": "1 + (1 + 'a')",
		// What there is nothing to do with.
		"1": "1", "-1": "-1", "'1 + 2'": "'1 + 2'", "true": "true", "x.v": "x.v", "count(x)": "count(x)", "sum(x.v)": "sum(x.v)", "min(x.v)": "min(x.v)", "max(x.v)": "max(x.v)",
	} {
		folds(t, pred(t, text+" = 1").L, pred(t, want+" = 1").L)
	}
}

// P10.1, J2: Kids that are not two, and all below them, are as they are.
func TestFoldNotTwo(t *testing.T) {
	sum := two(api.ExAdd, num(1), num(2))
	for _, kind := range []int{api.ExAdd, api.ExSub} {
		for _, n := range []int{0, 1, 3, 4, 9} {
			for _, kid := range []api.Expr{num(1), sum, field(), {}, {Kind: api.ExAdd}, two(api.ExSub, sum, sum)} {
				x := api.Expr{Kind: kind, Val: num(7).Val, Var: "x", Field: "v", Kids: slices.Repeat([]api.Expr{kid}, n)}
				stays(t, x)
				stays(t, two(api.ExAdd, x, num(1)))
				folds(t, two(api.ExSub, x, sum), two(api.ExSub, x, num(3)))
				folds(t, two(api.ExAdd, sum, x), two(api.ExAdd, num(3), x))
				folds(t, two(kind, two(kind, sum, x), two(api.ExAdd, sum, sum)), two(kind, two(kind, num(3), x), num(6)))
			}
		}
	}
	stays(t, api.Expr{Kind: api.ExAdd, Kids: []api.Expr{}})
}

// P10.1, J2: against a sketch of the document's words, of thrown expressions.
func TestFoldThrown(t *testing.T) {
	r := dice(10)
	parts := 0
	for range 20000 {
		x := r.wild(1 + r.below(7))
		want := sketchFold(x)
		folds(t, x, want)
		if want.Kind != api.ExVal && !reflect.DeepEqual(x, want) {
			parts++
		}
	}
	if parts < 1500 {
		t.Error("too few are folded in part:", parts)
	}
}
