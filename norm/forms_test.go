package norm_test

import (
	"fmt"
	"reflect"
	"slices"
	"testing"

	"augury/api"
	"augury/check"
	"augury/norm"
	"augury/tree"
	"augury/value"
)

// dice are numbers that look like thrown ones, the same ones each time.
type dice uint64

func (r *dice) below(n int) int {
	*r = *r*6364136223846793005 + 1442695040888963407
	return int(uint64(*r) >> 33 % uint64(n))
}

func (r *dice) among(l ...string) string { return l[r.below(len(l))] }

// val is a value that may be, near an end of its kind now and then.
func (r *dice) val() api.Val {
	switch r.below(12) {
	case 0:
		return api.Val{Kind: api.Text, S: r.among("", "a", "1", "x.v", "a b")}
	case 1:
		return api.Val{Kind: api.Bool, N: int64(r.below(2))}
	case 2:
		return api.Val{Kind: api.Int, N: most - int64(r.below(3))}
	case 3:
		return api.Val{Kind: api.Int, N: int64(r.below(3)) - most}
	}
	return api.Val{Kind: api.Int, N: int64(r.below(5) - 2)}
}

// expr is a right expression, at most so deep, of variables of l.
func (r *dice) expr(deep int, l []string) api.Expr {
	if deep > 1 && r.below(3) > 0 {
		return two(api.ExAdd+r.below(2), r.expr(deep-1, l), r.expr(deep-r.below(deep-1)-1, l))
	}
	switch kind := 1 + r.below(8); kind {
	case api.ExField, api.ExSum, api.ExMin, api.ExMax:
		return api.Expr{Kind: kind, Var: r.among(l...), Field: r.among("v", "w", "s")}
	case api.ExCount:
		return api.Expr{Kind: kind, Var: r.among(l...)}
	}
	return val(r.val())
}

// wild is an expression, right or not.
func (r *dice) wild(deep int) api.Expr {
	x := r.expr(1, []string{"x", "y"})
	if deep > 1 && r.below(4) > 0 {
		x = api.Expr{Kind: api.ExAdd + r.below(2)}
		many := 2
		if r.below(12) == 0 {
			many = r.below(4)
		}
		for range many {
			x.Kids = append(x.Kids, r.wild(deep-1))
		}
	}
	if r.below(12) == 0 {
		x.Var, x.Val.N = r.among("", "x"), int64(r.below(2))
	}
	if r.below(20) == 0 {
		x.Kind = r.below(10)
	}
	return x
}

// query is a right one.
func (r *dice) query() api.Query {
	q := api.Query{Within: int64(r.below(9)), Pick: 1 + r.below(3), By: r.among("", "", "v", "s", "w")}
	vars := []string{"x", "y", "n", "a", "w1", "z"}
	for i := range vars {
		j := r.below(i + 1)
		vars[i], vars[j] = vars[j], vars[i]
	}
	vars = vars[:1+r.below(len(vars))]
	for i, v := range vars {
		first := r.below(3)
		it := api.Item{Names: []string{"b", "a", "c"}[first : first+1+r.below(3-first)], Var: v, Mode: 1 + r.below(2)}
		if i > 0 && r.below(4) == 0 {
			it.Not, it.Mode = true, api.One
		}
		q.Items = append(q.Items, it)
	}
	if r.below(9) == 0 {
		vars = append(vars, "none")
	}
	for n := range r.below(9) {
		if n > 0 && r.below(6) == 0 {
			q.Preds = append(q.Preds, r.otherwise(q.Preds[r.below(n)]))
		} else {
			q.Preds = append(q.Preds, r.pred(vars))
		}
	}
	return q
}

// pred is a right predicate, more often than not of numbers.
func (r *dice) pred(vars []string) api.Pred {
	if r.below(3) == 0 {
		return api.Pred{Cmp: 1 + r.below(6), L: r.expr(1+r.below(6), vars), R: r.expr(1+r.below(6), vars)}
	}
	l := []api.Expr{num(int64(r.below(4))), two(api.ExAdd, num(1), num(1))}
	for _, field := range []string{"v", "v", "w"} {
		l = append(l, api.Expr{Kind: api.ExField, Var: r.among(vars...), Field: field})
	}
	return api.Pred{Cmp: 1 + r.below(6), L: l[r.below(len(l))], R: l[r.below(len(l))]}
}

// The sketch of the document's words.

func sketchFold(x api.Expr) api.Expr {
	if x.Kind != api.ExAdd && x.Kind != api.ExSub || len(x.Kids) != 2 {
		return x
	}
	x.Kids = []api.Expr{sketchFold(x.Kids[0]), sketchFold(x.Kids[1])}
	if x.Kids[0].Kind == api.ExVal && x.Kids[1].Kind == api.ExVal {
		of := map[int]func(a, b api.Val) (api.Val, api.Errno){api.ExAdd: value.Add, api.ExSub: value.Sub}[x.Kind]
		if v, e := of(x.Kids[0].Val, x.Kids[1].Val); e == api.OK {
			return val(v)
		}
	}
	return x
}

func sketchPlace(q api.Query, p api.Pred) int {
	l := append(append([]int{0}, check.Vars(q, p.L)...), check.Vars(q, p.R)...)
	return slices.Max(l)
}

// sketchAhead tells whether a predicate stands ahead of another one.
func sketchAhead(q api.Query, a, b api.Pred) bool {
	if one, other := sketchPlace(q, a), sketchPlace(q, b); one != other {
		return one < other
	}
	q.Preds = []api.Pred{a}
	one := tree.Print(q)
	q.Preds = []api.Pred{b}
	return one < tree.Print(q)
}

func sketchNorm(q api.Query) api.Query {
	if !tree.Right(q) {
		return api.Query{}
	}
	n := clean(q)
	n.Preds = nil
	for _, p := range clean(q).Preds {
		p.L, p.R = sketchFold(p.L), sketchFold(p.R)
		if p.Cmp == api.Gt || p.Cmp == api.Ge {
			p = api.Pred{Cmp: p.Cmp - 2, L: p.R, R: p.L}
		}
		at := 0
		for at < len(n.Preds) && sketchAhead(q, n.Preds[at], p) {
			at++
		}
		if at == len(n.Preds) || !reflect.DeepEqual(n.Preds[at], p) {
			n.Preds = slices.Insert(n.Preds, at, p)
		}
	}
	return n
}

// P10.1: thrown queries, against a sketch of the document's words.
func TestThrown(t *testing.T) {
	r := dice(101)
	less, moved := 0, 0
	for range 12000 {
		q := r.query()
		if !tree.Right(q) {
			t.Fatalf("%v", q)
		}
		want, got := sketchNorm(q), norm.Norm(q)
		if !same(got, want) {
			t.Fatalf("%q: %q is not %q", tree.Print(q), tree.Print(got), tree.Print(want))
		}
		for _, p := range q.Preds {
			if got, want := norm.Place(q, p), sketchPlace(q, p); got != want {
				t.Fatalf("%v: %d is not %d", p, got, want)
			}
		}
		if len(want.Preds) < len(q.Preds) {
			less++
		} else if !same(want, q) {
			moved++
		}
	}
	if less < 1000 || moved < 1000 {
		t.Error("too few:", less, moved)
	}
}

// otherwise is a predicate that asks the same, written in another way: turned about, or with a number that can be reckoned.
func (r *dice) otherwise(p api.Pred) api.Pred {
	if p.Cmp >= api.Lt && r.below(2) == 0 {
		about := map[int]int{api.Lt: api.Gt, api.Le: api.Ge, api.Gt: api.Lt, api.Ge: api.Le}
		p = api.Pred{Cmp: about[p.Cmp], L: p.R, R: p.L}
	}
	return api.Pred{Cmp: p.Cmp, L: r.unfolded(p.L), R: r.unfolded(p.R)}
}

// unfolded is an expression with some of its numbers written as sums, or differences, if it does not get too deep by that.
func (r *dice) unfolded(x api.Expr) api.Expr {
	var within func(x api.Expr, room int) api.Expr
	within = func(x api.Expr, room int) api.Expr {
		if len(x.Kids) == 2 {
			return two(x.Kind, within(x.Kids[0], room-1), within(x.Kids[1], room-1))
		}
		more := int64(r.below(9))
		if x.Kind != api.ExVal || x.Val.Kind != api.Int || room < 2 || r.below(3) == 0 {
			return x
		}
		if n := x.Val.N; n < 0 {
			return two(api.ExSub, within(num(n+more), room-1), within(num(more), room-1))
		} else {
			return two(api.ExAdd, within(num(n-more), room-1), within(num(more), room-1))
		}
	}
	return within(x, 6)
}

// P10.2: the normal form of a normal form is it; of queries whose predicates stand in another order, or twice, or are written in another way, it is one.
func TestOneForm(t *testing.T) {
	r := dice(102)
	for range 6000 {
		q := r.query()
		n := norm.Norm(q)
		if again := norm.Norm(n); !same(again, n) {
			t.Fatalf("%q is not %q", tree.Print(again), tree.Print(n))
		}
		for range 4 {
			one := q
			one.Preds = slices.Clone(q.Preds)
			for len(q.Preds) > 0 && len(one.Preds) < 8 && r.below(3) > 0 {
				one.Preds = append(one.Preds, q.Preds[r.below(len(q.Preds))])
			}
			for i := range one.Preds {
				j := r.below(i + 1)
				one.Preds[i], one.Preds[j] = one.Preds[j], one.Preds[i]
			}
			if got := norm.Norm(one); !same(got, n) {
				t.Fatalf("%q: %q is not %q", tree.Print(one), tree.Print(got), tree.Print(n))
			}
			for i := range one.Preds {
				one.Preds[i] = r.otherwise(one.Preds[i])
			}
			if got := norm.Norm(one); !tree.Right(one) || !same(got, n) {
				t.Fatalf("%q: %q is not %q", tree.Print(one), tree.Print(got), tree.Print(n))
			}
		}
	}
}

// P10.2: queries that differ in anything else have normal forms that do.
func TestOtherForms(t *testing.T) {
	q := parsed(t, "seq a or b x then not b n then c y+ where x.v < 3 and y.v = x.v within 5 by v pick next")
	for i, change := range []func(q *api.Query){
		func(q *api.Query) { q.Items = q.Items[:2] },
		func(q *api.Query) { q.Items[0].Names[0], q.Items[0].Names[1] = "b", "a" },
		func(q *api.Query) { q.Items[0].Names = q.Items[0].Names[:1] },
		func(q *api.Query) { q.Items[1].Not = false },
		func(q *api.Query) { q.Items[1].Var = "m" },
		func(q *api.Query) { q.Items[2].Mode = api.Opt },
		func(q *api.Query) { q.Items[1], q.Items[2] = q.Items[2], q.Items[1] },
		func(q *api.Query) { q.Preds = q.Preds[:1] },
		func(q *api.Query) { q.Preds[0].Cmp = api.Le },
		func(q *api.Query) { q.Preds[0].Cmp = api.Gt },
		func(q *api.Query) { q.Preds[0].R.Val.N = 4 },
		func(q *api.Query) { q.Preds[1].L, q.Preds[1].R = q.Preds[1].R, q.Preds[1].L },
		func(q *api.Query) { q.Preds[1].L.Field = "w" },
		func(q *api.Query) { q.Within = 6 },
		func(q *api.Query) { q.By = "" },
		func(q *api.Query) { q.Pick = api.Any },
	} {
		one := clean(q)
		change(&one)
		if n := norm.Norm(one); !tree.Right(one) || !tree.Right(n) || same(n, norm.Norm(q)) {
			t.Errorf("%d: %q", i, tree.Print(n))
		}
	}
}

// world are schemas in which most is: field w is none of c.
func world() []api.Schema {
	return []api.Schema{
		{Name: "a", Fields: []api.Field{{Name: "v", Kind: api.Int}, {Name: "w", Kind: api.Int}, {Name: "s", Kind: api.Text}, {Name: "t", Kind: api.Bool}}},
		{Name: "b", Fields: []api.Field{{Name: "s", Kind: api.Text}, {Name: "w", Kind: api.Int}, {Name: "v", Kind: api.Int}, {Name: "t", Kind: api.Bool}}},
		{Name: "c", Fields: []api.Field{{Name: "v", Kind: api.Int}, {Name: "s", Kind: api.Text}, {Name: "t", Kind: api.Bool}}},
	}
}

// asked are queries, and what is answered to them, ahead of their normal form and behind: the error, and the place of what is wrong.
var asked = []struct {
	text          string
	want          api.Errno
	ahead, behind int
}{
	{"seq a x within 5", api.OK, 0, 0},
	{"seq a x then not b n then c y+ where y.v > x.w + (1 + 1) and n.v >= 1 - x.v and x.s = 'u' and y.t != true within 5 by s pick next", api.OK, 0, 0},
	{"seq a x where x.s > 'a' and 'b' >= x.s and 1 + 2 < 4 and x.t = false within 5", api.OK, 0, 0},
	{"seq a x where 1099511627776 + 1 > x.v and x.v - 1 - (2 - 3) = x.v within 5", api.OK, 0, 0},
	{"seq a x then e y where x.q = 1 within 5 by q", api.ErrNone, 1, 1},
	{"seq e x where 1 + 1 = 2 within 5", api.ErrNone, 0, 0},
	{"seq a x then c y where x.q = 1 within 5 by w", api.ErrCheck, 1, 1},
	{"seq a x where x.q = 1 within 5", api.ErrType, 0, 0},
	{"seq a x where x.v = 1 and 1 + 'a' = 1 + 1 within 5", api.ErrType, 1, 0},
	{"seq a x where 1 + 'a' > 1 - 1 and x.v = 1 within 5", api.ErrType, 0, 0},
	{"seq a x then b y where y.v = 'a' and x.v = 1 within 5", api.ErrType, 0, 1},
	{"seq a x where x.v = 1 and x.v = 1 and x.v = false within 5", api.ErrType, 2, 1},
	{"seq a x where x.t >= false within 5", api.ErrType, 0, 0},
	{"seq a x where z.v > 1 within 5", api.ErrType, 0, 0},
	{"seq c x where x.w - x.w > 1 - 1 within 5", api.ErrType, 0, 0},
	{"seq a x then not b n where count(n) > 1 within 5", api.ErrType, 0, 0},
	{"seq a x then not b n then c y where y.v > n.v and x.v = 1 within 5", api.ErrCheck, 0, 1},
	{"seq a x then not b n then c y where y.v > n.v and y.v = 'a' within 5", api.ErrType, 1, 1},
	{"seq a x then not b n then not c m where n.v + 1 > m.v + (1 - 1) within 5", api.ErrCheck, 0, 0},
}

// P10.3: a right query's is right; what can be asked of schemas can be asked in it, what cannot, cannot.
func TestAsked(t *testing.T) {
	for _, c := range asked {
		q := parsed(t, c.text)
		if e, at := check.Check(world(), q); e != c.want || at != c.ahead {
			t.Errorf("%s: %v at %d", c.text, e, at)
		}
		n := norm.Norm(q)
		if e, at := check.Check(world(), n); e != c.want || at != c.behind || !tree.Right(n) {
			t.Errorf("%s: %v at %d: %q", c.text, e, at, tree.Print(n))
		}
	}
}

// P10.3: of thrown queries.
func TestThrownAsked(t *testing.T) {
	r := dice(103)
	many := map[string]int{}
	for range 30000 {
		q := r.query()
		q.Preds = q.Preds[:r.below(1+min(len(q.Preds), 4))]
		n := norm.Norm(q)
		if !tree.Right(n) || len(n.Preds) > len(q.Preds) || len(q.Preds) > 0 && len(n.Preds) == 0 {
			t.Fatalf("%q: %v", tree.Print(q), n)
		}
		for _, l := range [][]api.Schema{world(), world()[:2], nil} {
			e, _ := check.Check(l, q)
			if got, at := check.Check(l, n); got != e {
				t.Fatalf("%q: %v at %d is not %v", tree.Print(q), got, at, e)
			}
			many[fmt.Sprint(e, " ", len(q.Preds) > 0)]++
		}
	}
	for _, e := range []api.Errno{api.OK, api.ErrNone, api.ErrCheck, api.ErrType} {
		if many[fmt.Sprint(e, " true")] < 300 {
			t.Error("too few of", e, many)
		}
	}
}
