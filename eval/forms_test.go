package eval_test

import (
	"fmt"
	"maps"
	"slices"
	"testing"

	"augury/api"
	"augury/check"
	"augury/eval"
	"augury/norm"
	"augury/tree"
)

// P11.1: what thrown expressions are worth, and whether thrown predicates hold, is what the sketch says.
func TestThrown(t *testing.T) {
	r := dice(111)
	many := map[string]int{}
	for range 30000 {
		l := r.schemas()
		q := r.query()
		if r.rarely(2) {
			q = r.wildQuery()
		}
		b := r.bound(l, len(q.Items))
		compare(t, l, q, b, r.wild(1+r.below(5), vars), many)
		if t.Failed() {
			t.FailNow()
		}
	}
	for _, s := range []string{"value 0", "value 1", "value 12", "value 41", "value 42", "holds true", "holds false", "all true", "all false"} {
		if many[s] < 300 {
			t.Error("too few of", s, many)
		}
	}
}

// compare holds each call's answers against the sketch's.
func compare(t *testing.T, l []api.Schema, q api.Query, b [][]api.Event, x api.Expr, many map[string]int) {
	t.Helper()
	wild := func() string {
		return fmt.Sprintf("%v\n%.2000q\n%.2000q\n%s", l, fmt.Sprint(q), fmt.Sprint(b), told(x, 9))
	}
	v, e := eval.Value(l, q, b, x)
	if w, f := sketch(l, q, b, x); v != w || e != f {
		t.Errorf("%v %v is not %v %v of\n%s", v, e, w, f, wild())
	}
	if e != api.OK && v != (api.Val{}) {
		t.Errorf("%v beside %v", v, e)
	}
	many[fmt.Sprint("value ", int(e))]++
	for i, p := range q.Preds {
		got := eval.Holds(l, q, b, p)
		if got != sketchHolds(l, q, b, p) {
			t.Errorf("predicate %d: %v of\n%s", i, got, wild())
		}
		many[fmt.Sprint("holds ", got)]++
	}
	for place := -1; place <= len(q.Items); place++ {
		got := eval.All(l, q, b, place)
		if got != sketchAll(l, q, b, place) {
			t.Errorf("all of %d: %v of\n%s", place, got, wild())
		}
		many[fmt.Sprint("all ", got)]++
	}
}

// foldedPred is a predicate with its sides folded.
func foldedPred(p api.Pred) api.Pred {
	return api.Pred{Cmp: p.Cmp, L: norm.Fold(p.L), R: norm.Fold(p.R)}
}

// about are comparisons that ask the same of sides that are turned about.
var about = map[int]int{api.Eq: api.Eq, api.Ne: api.Ne, api.Lt: api.Gt, api.Le: api.Ge, api.Gt: api.Lt, api.Ge: api.Le}

// turned is a predicate with its sides turned about.
func turned(p api.Pred) api.Pred {
	cmp, is := about[p.Cmp]
	if !is {
		cmp = p.Cmp
	}
	return api.Pred{Cmp: cmp, L: p.R, R: p.L}
}

// oneForm asks whether a predicate holds just if it does in its other forms.
func oneForm(t *testing.T, l []api.Schema, q api.Query, b [][]api.Event, p api.Pred) bool {
	t.Helper()
	want := eval.Holds(l, q, b, p)
	for i, other := range []api.Pred{foldedPred(p), turned(p), turned(foldedPred(p)), foldedPred(turned(p)), turned(turned(p)), foldedPred(foldedPred(p))} {
		if got := eval.Holds(l, q, b, other); got != want {
			t.Errorf("%d: %v of %s is not %v of %s", i, got, toldPred(other), want, toldPred(p))
		}
	}
	return want
}

// P11.2: predicates hold just if they do folded, and turned about.
func TestPredForms(t *testing.T) {
	for s, want := range held {
		if got := oneForm(t, world(), wide(t), bound(), pred(t, s)); got != want {
			t.Errorf("%s: %v", s, got)
		}
	}
	for s, want := range values {
		for _, other := range []string{"3", "'a'", "true", "x.v + (1 + 2)", "n.v", "q.v", "1099511627776 + (1 - 1)", "1 + 'a'"} {
			for cmp := -1; cmp < 9; cmp++ {
				got := oneForm(t, world(), wide(t), bound(), api.Pred{Cmp: cmp, L: expr(t, s), R: expr(t, other)})
				if want.e == api.ErrNone && !got {
					t.Errorf("%s %d %s", s, cmp, other)
				}
			}
		}
	}
}

// P11.2: the sides that fold, all the way and in part, also those of which there is no value.
func TestFoldedForms(t *testing.T) {
	for s, want := range map[string]bool{
		"1 + 2 = x.v": true, "x.v = 1 + 2": true, "1 + (1 + 1) < x.w": true, "x.w > 5 - (1 + 1)": true, "x.v + (1 + 1) = 7 - 2": true, "1 + 1 = 3 - 1": true, "1 + 1 != 3 - 1": false,
		"1099511627776 + (1 - 1) = z.v": true, "1099511627776 + 1 - 1 = z.v": false, "1099511627776 + 1 - 1 != z.v": false, "z.v = 1 + (1099511627776 - 1)": true, "1099511627775 + 2 > 0": false,
		"'a' + (1 + 2) = 'a'": false, "'a' + 'b' != 'ab'": false, "true + (1 - 1) = true": false, "n.v + (1 + 2) = 'a'": true, "'a' + (1 + 2) = n.v": true, "1 + 1 + n.v > 2": true, "q.v + (1 + 2) != 3": false, "n.v - (1099511627776 + 1) = 1": true, "1099511627776 + 1 - n.v = 1": false,
	} {
		if got := oneForm(t, world(), wide(t), bound(), pred(t, s)); got != want {
			t.Errorf("%s: %v", s, got)
		}
	}
	// What is no value is not folded, and is none ahead of that, and behind.
	for _, v := range odd() {
		for _, w := range []api.Val{integer(1), text("a"), truth(1), {}} {
			for _, kind := range []int{api.ExAdd, api.ExSub} {
				for cmp := range 8 {
					oneForm(t, world(), wide(t), bound(), api.Pred{Cmp: cmp, L: two(kind, val(v), val(w)), R: two(kind, val(w), num(1))})
					oneForm(t, world(), wide(t), bound(), api.Pred{Cmp: cmp, L: two(kind, val(w), val(v)), R: of(api.ExField, "n", "v")})
				}
			}
		}
	}
}

// formAll asks whether all of each place hold just if they do in the normal form.
func formAll(t *testing.T, l []api.Schema, q api.Query, b [][]api.Event) map[bool]int {
	t.Helper()
	n := norm.Norm(q)
	many := map[bool]int{}
	for place := -1; place <= len(q.Items); place++ {
		want := eval.All(l, q, b, place)
		if got := eval.All(l, n, b, place); got != want {
			t.Errorf("%d: %v of %q is not %v of %q, of %v", place, got, tree.Print(n), want, tree.Print(q), b)
		}
		many[want]++
	}
	return many
}

// P11.2: of the query with all places, of each beginning of its events.
func TestAllForms(t *testing.T) {
	for _, s := range []string{
		allText,
		"seq a x then a y where 1 + 2 >= y.v and x.v > 3 - 1 and y.v <= 3 and 2 < x.v and 2 < x.v within 5",
		"seq a x then not a n then a y where n.v >= x.v + (1 + 1) and 1 > 1 + 1 and y.s != 'a' and 'a' > y.s within 5",
		"seq a x where 1099511627776 + 1 > x.v within 5",
		"seq a x where 'a' + 1 = x.v and x.v = 'a' + 1 within 5",
		"seq a x within 5",
	} {
		q := parsed(t, s)
		for _, v := range []int64{-1, 0, 1, 2, 3, 4, most} {
			for _, w := range []int64{0, 2, 3, 5} {
				full := [][]api.Event{{made("a", integer(v), integer(3))}, {made("a", integer(w), integer(w))}, {made("a", integer(w-v), text("a"))}, nil, ints(v, w)}
				for many := range len(full) + 1 {
					formAll(t, world(), q, full[:many])
				}
			}
		}
	}
}

// P11.2: of thrown queries; and of thrown predicates, right or not.
func TestThrownForms(t *testing.T) {
	r := dice(112)
	alls, preds := map[bool]int{}, map[bool]int{}
	for range 8000 {
		l, q := r.schemas(), r.query()
		b := r.bound(l, len(q.Items))
		if !tree.Right(q) {
			t.Fatal(tree.Print(q))
		}
		for is, n := range formAll(t, l, q, b) {
			alls[is] += n
		}
		wild := api.Pred{Cmp: r.below(8), L: r.wild(1+r.below(6), vars), R: r.wild(1+r.below(6), vars)}
		for _, p := range append(q.Preds, wild) {
			preds[oneForm(t, l, q, b, p)]++
		}
		if t.Failed() {
			t.FailNow()
		}
	}
	if min(alls[true], alls[false], preds[true], preds[false]) < 2000 {
		t.Error("too few", alls, preds)
	}
}

// elsewhere is b with other events at all places but those, and with other rows behind.
func elsewhere(r *dice, l []api.Schema, b [][]api.Event, named []int, items int) [][]api.Event {
	out := make([][]api.Event, max(len(b), items+r.below(3)))
	for at := range out {
		if !slices.Contains(named, at) {
			out[at] = append(slices.Concat(r.bound(l, 2)...), r.event(l))[r.below(2):]
		} else if at < len(b) {
			out[at] = b[at]
		}
	}
	return out
}

// P11.3: what is bound to other items than an expression names changes no value, nor what holds.
func TestOthers(t *testing.T) {
	r := dice(113)
	for range 3 {
		for s, want := range values {
			x := expr(t, s)
			asks(t, elsewhere(&r, world(), bound(), check.Vars(wide(t), x), 8), x, want)
		}
		for s, want := range held {
			p := pred(t, s)
			named := append(check.Vars(wide(t), p.L), check.Vars(wide(t), p.R)...)
			holds(t, elsewhere(&r, world(), bound(), named, 8), p, want)
		}
	}
	// One that names all is worth something else with each of them.
	x := expr(t, "count(x) + count(y) + count(n) + count(z) + count(k)")
	for at := range 5 {
		b := append(bound(), nil)
		b[at] = append(slices.Clone(b[at]), made("a"))
		asks(t, b, x, is(integer(7)))
	}
}

// P11.3: of thrown expressions, and of all predicates of a place.
func TestThrownOthers(t *testing.T) {
	r := dice(114)
	errs := map[api.Errno]int{}
	for range 8000 {
		l, q := r.schemas(), r.query()
		if r.rarely(3) {
			q = r.wildQuery()
		}
		b, x := r.bound(l, len(q.Items)), r.wild(1+r.below(4), vars)
		v, e := eval.Value(l, q, b, x)
		other := elsewhere(&r, l, b, check.Vars(q, x), len(q.Items))
		if w, f := eval.Value(l, q, other, x); v != w || e != f {
			t.Fatalf("%v: %v %v is not %v %v", x, w, f, v, e)
		}
		errs[e]++
		for place := range q.Items {
			named := map[int]struct{}{}
			for _, p := range q.Preds {
				for _, at := range append(check.Vars(q, p.L), check.Vars(q, p.R)...) {
					if norm.Place(q, p) == place {
						named[at] = struct{}{}
					}
				}
			}
			other := elsewhere(&r, l, b, slices.Collect(maps.Keys(named)), len(q.Items))
			if eval.All(l, q, other, place) != eval.All(l, q, b, place) {
				t.Fatalf("%d of %v: %v, %v", place, q, b, other)
			}
		}
	}
	for _, e := range []api.Errno{api.OK, api.ErrArg, api.ErrNone, api.ErrType} {
		if errs[e] < 300 {
			t.Error("too few of", e, errs)
		}
	}
}
