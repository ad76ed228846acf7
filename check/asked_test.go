package check_test

import (
	"fmt"
	"reflect"
	"slices"
	"testing"

	"augury/api"
	"augury/check"
	"augury/event"
	"augury/tree"
)

// dice are numbers that look like thrown ones, the same ones each time.
type dice uint64

func (r *dice) below(n int) int {
	*r = *r*6364136223846793005 + 1442695040888963407
	return int(uint64(*r) >> 33 % uint64(n))
}

func (r *dice) among(l ...string) string { return l[r.below(len(l))] }

// unlike are so many of l, no two alike.
func (r *dice) unlike(n int, l ...string) []string {
	var out []string
	for len(out) < n {
		if s := r.among(l...); !slices.Contains(out, s) {
			out = append(out, s)
		}
	}
	return out
}

// schemas are some, now and then two of a name, with fields now and then of unlike Kinds, or two of a name.
func (r *dice) schemas() []api.Schema {
	var l []api.Schema
	for _, name := range []string{"a", "b", "c", "d"} {
		for range []int{1, 1, 1, 1, 1, 1, 2, 0}[r.below(8)] {
			s := api.Schema{Name: name}
			for i, field := range []string{"v", "w", "s", "t", "z"} {
				for range []int{1, 1, 1, 1, 1, 1, 2, 0}[r.below(8)] {
					kind := []int{1, 1, 2, 3, 0}[i]
					if r.below(12) == 0 {
						kind = r.below(5)
					}
					s.Fields = append(s.Fields, api.Field{Name: field, Kind: kind})
				}
			}
			l = append(l, s)
		}
	}
	for i := range l {
		j := r.below(i + 1)
		l[i], l[j] = l[j], l[i]
	}
	return l
}

// number is an expression, at most so deep, that is one in most schemas; of a variable of l.
func (r *dice) number(deep int, l []string) api.Expr {
	if deep > 1 && r.below(3) == 0 {
		return api.Expr{Kind: api.ExAdd + r.below(2), Kids: []api.Expr{r.number(deep-1, l), r.number(deep-1, l)}}
	}
	switch kind := 1 + r.below(6); kind {
	case api.ExVal:
		return api.Expr{Kind: kind, Val: api.Val{Kind: api.Int, N: int64(r.below(9))}}
	case api.ExCount:
		return api.Expr{Kind: kind, Var: r.among(l...)}
	default:
		return api.Expr{Kind: kind, Var: r.among(l...), Field: r.among("v", "w")}
	}
}

// pred is a predicate, whose sides are alike in most schemas.
func (r *dice) pred(l []string) api.Pred {
	field := func(s string) api.Expr { return api.Expr{Kind: api.ExField, Var: r.among(l...), Field: s} }
	p := api.Pred{Cmp: 1 + r.below(6)}
	switch r.below(8) {
	case 0:
		p.L, p.R = field("s"), api.Expr{Kind: api.ExVal, Val: api.Val{Kind: api.Text, S: "u"}}
	case 1:
		p.L, p.R = field("s"), field("s")
	case 2:
		p.Cmp = 1 + r.below(3)
		p.L, p.R = api.Expr{Kind: api.ExVal, Val: api.Val{Kind: api.Bool, N: 1}}, field("t")
	case 3:
		p.L, p.R = field(r.among("v", "w", "s", "t", "z")), field(r.among("v", "w", "s", "t", "z"))
	default:
		p.L, p.R = r.number(3, l), r.number(3, l)
	}
	return p
}

// query is a right one.
func (r *dice) query() api.Query {
	q := api.Query{Within: int64(r.below(9)), Pick: 1 + r.below(3), By: r.among("", "", "v", "w", "s", "z")}
	vars := r.unlike(1+r.below(6), "x", "y", "n", "m", "k", "u", "a")
	for i, v := range vars {
		it := api.Item{Names: r.unlike(1+r.below(1+r.below(3)), "a", "b", "c", "d"), Var: v, Mode: api.One}
		if i > 0 && r.below(4) == 0 {
			it.Not = true
		}
		if r.below(60) == 0 {
			it.Names[0] = "e"
		}
		q.Items = append(q.Items, it)
	}
	if r.below(30) == 0 {
		vars = append(vars, "none")
	}
	for range r.below(4) {
		q.Preds = append(q.Preds, r.pred(vars))
	}
	return q
}

// The sketch of the document's words.

func sketchItem(q api.Query, name string) int {
	return slices.IndexFunc(q.Items, func(i api.Item) bool { return i.Var == name })
}

// sketchField are the Kinds of a field in the schemas of names; 0, where there is none.
func sketchField(l []api.Schema, names []string, field string) []int {
	var kinds []int
	for _, name := range names {
		s, _ := event.Find(l, name)
		_, kind := event.Field(s, field)
		kinds = append(kinds, kind)
	}
	return kinds
}

func sketchKind(l []api.Schema, q api.Query, x api.Expr) int {
	at := sketchItem(q, x.Var)
	field := 0
	if at >= 0 {
		if kinds := slices.Compact(sketchField(l, q.Items[at].Names, x.Field)); len(kinds) == 1 {
			field = kinds[0]
		}
	}
	is := false
	switch x.Kind {
	case api.ExVal:
		return x.Val.Kind
	case api.ExField:
		return field
	case api.ExCount:
		is = at >= 0 && !q.Items[at].Not
	case api.ExSum, api.ExMin, api.ExMax:
		is = at >= 0 && !q.Items[at].Not && field == api.Int
	case api.ExAdd, api.ExSub:
		is = len(x.Kids) == 2 && sketchKind(l, q, x.Kids[0]) == api.Int && sketchKind(l, q, x.Kids[1]) == api.Int
	}
	if is {
		return api.Int
	}
	return 0
}

// sketchVars tells of each item whether it is named.
func sketchVars(q api.Query, x api.Expr) map[int]bool {
	named := map[int]bool{}
	switch x.Kind {
	case api.ExField, api.ExCount, api.ExSum, api.ExMin, api.ExMax:
		if at := sketchItem(q, x.Var); at >= 0 {
			named[at] = true
		}
	case api.ExAdd, api.ExSub:
		for _, k := range x.Kids {
			for at := range sketchVars(q, k) {
				named[at] = true
			}
		}
	}
	return named
}

// sketchNot tells whether a predicate names a Not, and another Not, or an item behind it.
func sketchNot(q api.Query, p api.Pred) bool {
	named := sketchVars(q, api.Expr{Kind: api.ExAdd, Kids: []api.Expr{p.L, p.R}})
	for not := range named {
		for other := range named {
			if q.Items[not].Not && (other > not || other != not && q.Items[other].Not) {
				return true
			}
		}
	}
	return false
}

func sketchCheck(l []api.Schema, q api.Query) (api.Errno, int) {
	if !tree.Right(q) {
		return api.ErrArg, 0
	}
	for n, i := range q.Items {
		for _, name := range i.Names {
			if !slices.ContainsFunc(l, func(s api.Schema) bool { return s.Name == name }) {
				return api.ErrNone, n
			}
		}
	}
	for n, i := range q.Items {
		first := sketchField(l, q.Items[0].Names, q.By)[0]
		for _, kind := range sketchField(l, i.Names, q.By) {
			if q.By != "" && (kind == 0 || kind != first) {
				return api.ErrCheck, n
			}
		}
	}
	for n, p := range q.Preds {
		a, b := sketchKind(l, q, p.L), sketchKind(l, q, p.R)
		if a == 0 || b == 0 || a != b || a == api.Bool && p.Cmp != api.Eq && p.Cmp != api.Ne {
			return api.ErrType, n
		}
	}
	for n, p := range q.Preds {
		if sketchNot(q, p) {
			return api.ErrCheck, n
		}
	}
	return api.OK, 0
}

// within are an expression, and its Kids, and theirs.
func within(x api.Expr) []api.Expr {
	l := []api.Expr{x}
	for _, k := range x.Kids {
		l = append(l, within(k)...)
	}
	return l
}

// compare asks whether schemas and a query are answered as the sketch does.
func compare(t *testing.T, l []api.Schema, q api.Query) (api.Errno, int) {
	t.Helper()
	e, at := check.Check(l, q)
	if want, place := sketchCheck(l, q); e != want || at != place {
		t.Errorf("%v %v: %d at %d is not %d at %d", l, q, e, at, want, place)
	}
	for _, p := range q.Preds {
		for _, x := range append(within(p.L), within(p.R)...) {
			if got, want := check.Kind(l, q, x), sketchKind(l, q, x); got != want {
				t.Errorf("%v %v %v: %d is not %d", l, q, x, got, want)
			}
			var want []int
			for at := range q.Items {
				if sketchVars(q, x)[at] {
					want = append(want, at)
				}
			}
			if got := check.Vars(q, x); !slices.Equal(got, want) {
				t.Errorf("%v %v: %v is not %v", q, x, got, want)
			}
		}
	}
	return e, at
}

// P9.1: thrown queries of thrown schemas, against a sketch of the document's words.
func TestThrown(t *testing.T) {
	r := dice(9)
	many := map[string]int{}
	for range 60000 {
		e, at := compare(t, r.schemas(), r.query())
		many[fmt.Sprint(e)]++
		if at > 0 {
			many[fmt.Sprint(e, " behind the first")]++
		}
	}
	for _, e := range []api.Errno{api.OK, api.ErrNone, api.ErrCheck, api.ErrType} {
		if many[fmt.Sprint(e)] < 500 || e != api.OK && many[fmt.Sprint(e, " behind the first")] < 500 {
			t.Error("too few of", e, many)
		}
	}
}

// P9.1: thrown queries that are not right, too: variables of several items, items without names, Kids that are not two.
func TestThrownWrong(t *testing.T) {
	r := dice(99)
	for range 20000 {
		l, q := r.schemas(), r.query()
		for range 1 + r.below(3) {
			i := &q.Items[r.below(len(q.Items))]
			switch r.below(4) {
			case 0:
				i.Var = q.Items[r.below(len(q.Items))].Var
			case 1:
				i.Names = slices.Repeat(i.Names, r.below(3))
			case 2:
				i.Not = !i.Not
			default:
				q.Items = append(q.Items, q.Items...)
			}
		}
		for i := range q.Preds {
			if x := &q.Preds[i].L; r.below(3) == 0 {
				*x = api.Expr{Kind: r.below(10), Var: x.Var, Field: x.Field, Val: x.Val, Kids: slices.Repeat([]api.Expr{*x}, r.below(4))}
			}
		}
		compare(t, l, q)
	}
}

// orders calls do with every order of l.
func orders(l []api.Pred, do func(l []api.Pred)) {
	var put func(ahead, left []api.Pred)
	put = func(ahead, left []api.Pred) {
		if len(left) == 0 {
			do(ahead)
		}
		for i := range left {
			put(append(slices.Clone(ahead), left[i]), append(slices.Clone(left[:i]), left[i+1:]...))
		}
	}
	put(nil, l)
}

// subsets calls do with every choice of l, in their order.
func subsets(l []api.Pred, do func(l []api.Pred)) {
	for mask := range 1 << len(l) {
		var some []api.Pred
		for i, p := range l {
			if mask>>i&1 == 1 {
				some = append(some, p)
			}
		}
		do(some)
	}
}

// P9.2: what is answered is so of more schemas behind, whatever they are.
func TestMoreSchemas(t *testing.T) {
	for _, c := range texts {
		for n := range more() {
			answers(t, append(world(), more()[:n+1]...), parsed(t, c.text), c.want, c.at)
			answers(t, append(world(), more()[n:]...), parsed(t, c.text), c.want, c.at)
		}
		answers(t, append(world(), world()...), parsed(t, c.text), c.want, c.at)
	}
	for _, c := range known {
		for n := range more() {
			x := expr(t, c.text)
			if got := check.Kind(append(world(), more()[n:]...), wide(t), x); got != c.kind {
				t.Errorf("%s: %d is not %d", c.text, got, c.kind)
			}
		}
	}
}

// P9.2: with predicates less, and in another order, what can be asked can be; of what cannot the place is that of the first that is wrong.
func TestOtherPreds(t *testing.T) {
	for _, c := range texts {
		q := parsed(t, c.text)
		if len(q.Preds) > 5 {
			continue
		}
		subsets(q.Preds, func(some []api.Pred) {
			orders(some, func(l []api.Pred) {
				one := q
				one.Preds = l
				if e, _ := compare(t, world(), one); c.want == api.OK && e != api.OK {
					t.Errorf("%s: %v", c.text, e)
				}
				compare(t, append(world(), more()...), one)
			})
		})
	}
}

// P9.2: of thrown queries.
func TestThrownAsked(t *testing.T) {
	r := dice(92)
	can := 0
	for range 40000 {
		l, q := r.schemas(), r.query()
		if e, _ := check.Check(l, q); e != api.OK {
			continue
		}
		can++
		asked := func(l []api.Schema, q api.Query) {
			t.Helper()
			if e, at := check.Check(l, q); e != api.OK || at != 0 {
				t.Errorf("%v %v: %v %d", l, q, e, at)
			}
		}
		asked(append(slices.Clone(l), r.schemas()...), q)
		subsets(q.Preds, func(some []api.Pred) {
			one := q
			one.Preds = some
			asked(l, one)
			asked(append(slices.Clone(l), r.schemas()...), one)
		})
		orders(q.Preds, func(l2 []api.Pred) {
			one := q
			one.Preds = l2
			asked(l, one)
		})
	}
	if can < 3000 {
		t.Error("too few can be asked:", can)
	}
}

// beside are a query with other things beside its items: its predicates less, or others; another By, Within and Pick.
func beside(q api.Query, other []api.Pred) []api.Query {
	var l []api.Query
	for _, preds := range [][]api.Pred{nil, other, append(slices.Clone(other), q.Preds...)} {
		for _, by := range []string{"", "id", "v"} {
			l = append(l, api.Query{Items: q.Items, Preds: preds, Within: q.Within + 1, By: by, Pick: 4 - q.Pick})
		}
	}
	return l
}

// hasOne asks whether each expression of what can be asked has one kind, whatever is asked beside, and of whichever schemas behind.
func hasOne(t *testing.T, l, behind []api.Schema, q api.Query, other []api.Pred) {
	t.Helper()
	for _, p := range q.Preds {
		if check.Kind(l, q, p.L) != check.Kind(l, q, p.R) {
			t.Errorf("%v", p)
		}
		for _, x := range append(within(p.L), within(p.R)...) {
			kind := check.Kind(l, q, x)
			if kind == 0 {
				t.Errorf("%v has no kind", x)
			}
			for _, one := range append(beside(q, other), q) {
				for _, schemas := range [][]api.Schema{l, append(slices.Clone(l), behind...)} {
					if got := check.Kind(schemas, one, x); got != kind || !reflect.DeepEqual(check.Vars(one, x), check.Vars(q, x)) {
						t.Errorf("%v: %d is not %d", x, got, kind)
					}
				}
			}
		}
	}
}

// P9.3: an expression of what can be asked has one kind.
func TestOneKind(t *testing.T) {
	for _, c := range texts {
		if c.want == api.OK {
			hasOne(t, world(), more(), parsed(t, c.text), parsed(t, texts[len(texts)-1].text).Preds)
		}
	}
	r := dice(93)
	for range 6000 {
		l, q := r.schemas(), r.query()
		if e, _ := check.Check(l, q); e == api.OK {
			hasOne(t, l, r.schemas(), q, r.query().Preds)
		}
	}
}
