package tree_test

import (
	"fmt"
	"reflect"
	"strings"
	"testing"

	"augury/api"
	"augury/tree"
)

const most = int64(1) << 40

// keys are the words that are kept by layer 7.
const keys = "seq then not or where and within by pick any next strict true false count sum min max"

func val(v api.Val) api.Expr { return api.Expr{Kind: api.ExVal, Val: v} }

func num(n int64) api.Expr { return val(api.Val{Kind: api.Int, N: n}) }

func text(s string) api.Expr { return val(api.Val{Kind: api.Text, S: s}) }

func truth(n int64) api.Expr { return val(api.Val{Kind: api.Bool, N: n}) }

// of is an expression of a kind that says a variable, and a field of it, if that is not empty.
func of(kind int, v, field string) api.Expr { return api.Expr{Kind: kind, Var: v, Field: field} }

func two(kind int, a, b api.Expr) api.Expr { return api.Expr{Kind: kind, Kids: []api.Expr{a, b}} }

func add(a, b api.Expr) api.Expr { return two(api.ExAdd, a, b) }

func sub(a, b api.Expr) api.Expr { return two(api.ExSub, a, b) }

// left, right and both are as deep as said, on that side.
func left(deep int) api.Expr {
	if deep == 1 {
		return num(1)
	}
	return add(left(deep-1), num(int64(deep)))
}

func right(deep int) api.Expr {
	if deep == 1 {
		return num(1)
	}
	return sub(num(int64(deep)), right(deep-1))
}

func both(deep int) api.Expr {
	if deep == 1 {
		return of(api.ExField, "x", "v")
	}
	return sub(both(deep-1), both(deep-1))
}

func item(names, v string, mode int) api.Item {
	return api.Item{Names: strings.Split(names, " or "), Var: v, Mode: mode}
}

func none(names, v string) api.Item {
	return api.Item{Not: true, Names: strings.Split(names, " or "), Var: v, Mode: api.One}
}

// least is the smallest query.
func least() api.Query {
	return api.Query{Items: []api.Item{item("a", "x", api.One)}, Pick: api.Any}
}

// base is a query that has all that one can have.
func base() api.Query {
	return api.Query{
		Items: []api.Item{item("a or b", "x", api.Plus), none("c", "n"), item("d", "y", api.Opt)},
		Preds: []api.Pred{
			{Cmp: api.Le, L: sub(of(api.ExField, "x", "v"), add(num(1), of(api.ExCount, "x", ""))), R: num(-3)},
			{Cmp: api.Ne, L: of(api.ExMax, "x", "w"), R: text("it (is)")},
		},
		Within: 7, By: "id", Pick: api.Next,
	}
}

const baseText = "seq a or b x+ then not c n then d y? where x.v - (1 + count(x)) <= -3 and max(x.w) != 'it (is)' within 7 by id pick next"

// but is base, with a change.
func but(change func(q *api.Query)) api.Query {
	q := base()
	change(&q)
	return q
}

// asking is the smallest query, with predicates.
func asking(l ...api.Pred) api.Query {
	q := least()
	q.Preds = l
	return q
}

// with is a query with an expression, on the left and on the right.
func with(x api.Expr) []api.Query {
	return []api.Query{asking(api.Pred{Cmp: api.Eq, L: x, R: num(1)}), asking(api.Pred{Cmp: api.Eq, L: num(1), R: num(1)}, api.Pred{Cmp: api.Eq, L: num(1), R: x})}
}

// long is a query of so many items, each with a Var of its own.
func long(n int) api.Query {
	q := least()
	for i := 1; i < n; i++ {
		q.Items = append(q.Items, item("a", fmt.Sprint("x", i), api.One))
	}
	return q
}

// many is a query of so many predicates.
func many(n int) api.Query {
	q := least()
	for i := range n {
		q.Preds = append(q.Preds, api.Pred{Cmp: api.Gt, L: of(api.ExField, "x", "v"), R: num(int64(i))})
	}
	return q
}

// clean is a query whose empty lists are nil, so that alike ones are equal.
func clean(q api.Query) api.Query {
	out := api.Query{Within: q.Within, By: q.By, Pick: q.Pick}
	for _, i := range q.Items {
		i.Names = append([]string(nil), i.Names...)
		out.Items = append(out.Items, i)
	}
	for _, p := range q.Preds {
		out.Preds = append(out.Preds, api.Pred{Cmp: p.Cmp, L: cleanExpr(p.L), R: cleanExpr(p.R)})
	}
	return out
}

func cleanExpr(x api.Expr) api.Expr {
	out := x
	out.Kids = nil
	for _, k := range x.Kids {
		out.Kids = append(out.Kids, cleanExpr(k))
	}
	return out
}

func same(a, b api.Query) bool { return reflect.DeepEqual(clean(a), clean(b)) }

// words are names, as they are the longest, the shortest, and alike to what is kept.
func words() []string {
	return []string{"a", "z", "a1", "a_", "id", "seqs", "se", "ands", "n0t", "countx", "sum_", "abcdefghijklmnop", "a23456789_123456"}
}

// noNames are none: they are kept, or no words.
func noNames() []string {
	return append(strings.Fields(keys), "", " ", "A", "aA", "_", "_a", "1", "1a", "a b", "a.b", "a-", "é", "a\x00", "'a'", "abcdefghijklmnopq", strings.Repeat("a", 1<<10))
}

// rightVals have a text in the language.
func rightVals() []api.Val {
	l := []api.Val{{Kind: api.Bool}, {Kind: api.Bool, N: 1}}
	for _, n := range []int64{0, 1, -1, 7, 127, -128, most - 1, most, 1 - most, -most} {
		l = append(l, api.Val{Kind: api.Int, N: n})
	}
	for _, s := range []string{"", " ", "~", "a", "seq", "=", "-1", "true", " a  b ", "\"", "\\", "\\n", "(", "! #$%&()*+,-./:;<=>?@[]^_`{|}~", strings.Repeat("q", 63), strings.Repeat(" ", 64)} {
		l = append(l, api.Val{Kind: api.Text, S: s})
	}
	return l
}

// wrongVals are not right, or have no text.
func wrongVals() []api.Val {
	l := []api.Val{
		{}, {Kind: 4}, {Kind: -1}, {N: 1}, {S: "a"}, {Kind: api.Bool, N: 2}, {Kind: api.Bool, N: -1}, {Kind: api.Bool, N: 1, S: "a"},
		{Kind: api.Int, N: most + 1}, {Kind: api.Int, N: -most - 1}, {Kind: api.Int, N: 1, S: "1"}, {Kind: api.Text, N: 1}, {Kind: api.Text, N: 1, S: "a"}, {Kind: 4, S: "a"},
	}
	for _, s := range []string{"'", "a'", "'a'", "it's", "\x1f", "\x7f", "a\x1fb", "a\x7f", "\n", "a\nb", "\t", "\x00", "\x80", "\xff", "é", strings.Repeat("q", 65), strings.Repeat("q", 63) + "'", strings.Repeat("q", 63) + "\x7f", "\x1f" + strings.Repeat("q", 63)} {
		l = append(l, api.Val{Kind: api.Text, S: s})
	}
	return l
}

// rightExprs are as deep as may be, or less.
func rightExprs() []api.Expr {
	var l []api.Expr
	for _, v := range rightVals() {
		l = append(l, val(v))
	}
	for _, kind := range []int{api.ExField, api.ExSum, api.ExMin, api.ExMax} {
		for _, w := range words() {
			l = append(l, of(kind, w, "v"), of(kind, "x", w), of(kind, w, w))
		}
	}
	for _, w := range words() {
		l = append(l, of(api.ExCount, w, ""))
	}
	for deep := 1; deep <= 6; deep++ {
		l = append(l, left(deep), right(deep), both(deep))
	}
	empty := []api.Expr{}
	return append(l, add(left(5), right(5)), sub(right(5), left(5)), add(both(4), right(5)), api.Expr{Kind: api.ExField, Var: "x", Field: "v", Kids: empty}, api.Expr{Kind: api.ExVal, Val: api.Val{Kind: api.Int}, Kids: empty}, api.Expr{Kind: api.ExCount, Var: "x", Kids: empty})
}

// wrongExprs have something that is not so, or too many of it.
func wrongExprs() []api.Expr {
	kids := []api.Expr{num(1), num(2)}
	var l []api.Expr
	for _, v := range wrongVals() {
		l = append(l, val(v))
	}
	for _, kind := range []int{api.ExField, api.ExSum, api.ExMin, api.ExMax} {
		for _, w := range noNames() {
			l = append(l, of(kind, w, "v"), of(kind, "x", w), of(kind, w, w))
		}
		x := of(kind, "x", "v")
		l = append(l, spoilt(x, func(x *api.Expr) { x.Val.Kind = api.Int }), spoilt(x, func(x *api.Expr) { x.Val.N = 1 }), spoilt(x, func(x *api.Expr) { x.Val.S = "a" }), spoilt(x, func(x *api.Expr) { x.Kids = kids }), spoilt(x, func(x *api.Expr) { x.Kids = kids[:1] }))
	}
	for _, w := range noNames() {
		l = append(l, of(api.ExCount, w, ""))
	}
	count := of(api.ExCount, "x", "")
	l = append(l, of(api.ExCount, "x", "v"), spoilt(count, func(x *api.Expr) { x.Val.Kind = api.Int }), spoilt(count, func(x *api.Expr) { x.Kids = kids }), spoilt(count, func(x *api.Expr) { x.Kids = kids[:1] }))
	for _, x := range []api.Expr{num(1), num(0), text(""), truth(0)} {
		l = append(l, spoilt(x, func(x *api.Expr) { x.Var = "x" }), spoilt(x, func(x *api.Expr) { x.Field = "v" }), spoilt(x, func(x *api.Expr) { x.Kids = kids }), spoilt(x, func(x *api.Expr) { x.Kids = kids[:1] }))
	}
	for _, kind := range []int{api.ExAdd, api.ExSub} {
		x := two(kind, num(1), num(2))
		l = append(l, api.Expr{Kind: kind}, api.Expr{Kind: kind, Kids: kids[:1]}, api.Expr{Kind: kind, Kids: []api.Expr{num(1), num(2), num(3)}}, two(kind, api.Expr{}, num(1)), two(kind, num(1), api.Expr{}), two(kind, of(9, "x", "v"), num(1)), two(kind, num(1), text("'")), two(kind, num(1), add(num(1), text("'"))))
		l = append(l, spoilt(x, func(x *api.Expr) { x.Var = "x" }), spoilt(x, func(x *api.Expr) { x.Field = "v" }), spoilt(x, func(x *api.Expr) { x.Val.Kind = api.Int }), spoilt(x, func(x *api.Expr) { x.Val.N = 1 }))
	}
	for _, kind := range []int{0, 9, -1, 10, 1 << 40} {
		l = append(l, api.Expr{Kind: kind}, of(kind, "x", "v"), of(kind, "x", ""), two(kind, num(1), num(2)), api.Expr{Kind: kind, Val: api.Val{Kind: api.Int, N: 1}})
	}
	return append(l, left(7), right(7), both(7), left(8), right(9), add(num(1), left(6)), sub(right(6), num(1)), add(both(6), both(1)))
}

// spoilt is an expression, with a change.
func spoilt(x api.Expr, change func(x *api.Expr)) api.Expr {
	change(&x)
	return x
}

// rights are queries.
func rights() []api.Query {
	l := []api.Query{least(), base(), long(6), many(0), many(1), many(8)}
	for _, x := range rightExprs() {
		l = append(l, with(x)...)
	}
	for cmp := api.Eq; cmp <= api.Ge; cmp++ {
		l = append(l, asking(api.Pred{Cmp: cmp, L: of(api.ExField, "x", "v"), R: num(1)}), but(func(q *api.Query) { q.Preds[1].Cmp = cmp }))
	}
	for _, w := range words() {
		l = append(l, but(func(q *api.Query) { q.By = w }), but(func(q *api.Query) { q.Items[0].Var = w }), but(func(q *api.Query) { q.Items[1].Var = w }))
		l = append(l, but(func(q *api.Query) { q.Items[0].Names = []string{w, "b", "c"} }), but(func(q *api.Query) { q.Items[2].Names[0] = w }))
	}
	for _, n := range []int64{0, 1, 99, most - 1, most} {
		l = append(l, but(func(q *api.Query) { q.Within = n }))
	}
	for pick := api.Any; pick <= api.Strict; pick++ {
		l = append(l, but(func(q *api.Query) { q.Pick = pick }))
	}
	return append(l,
		but(func(q *api.Query) { q.Items = q.Items[:2] }),
		but(func(q *api.Query) { q.Items = []api.Item{q.Items[0], q.Items[2], q.Items[1]} }),
		but(func(q *api.Query) { q.Items[0].Mode = api.One }),
		but(func(q *api.Query) { q.Items[2].Mode = api.Plus }),
		but(func(q *api.Query) { q.Items[2].Mode = api.One }),
		but(func(q *api.Query) { q.Items[1].Names = []string{"a", "b", "c"} }),
		but(func(q *api.Query) { q.Items[0].Names[0], q.Items[1].Var, q.Items[2].Var, q.By = "x", "a", "b", "x" }),
		but(func(q *api.Query) { q.Preds, q.By = nil, "" }),
		but(func(q *api.Query) { q.Preds = []api.Pred{q.Preds[0], q.Preds[0]} }),
	)
}

// wrongs are no queries, each by one thing alone.
func wrongs() []api.Query {
	l := []api.Query{{}, long(7), long(8), many(9), many(10), but(func(q *api.Query) { q.Items = nil })}
	for _, x := range wrongExprs() {
		l = append(l, with(x)...)
	}
	for _, n := range []int{0, -1, 7, 8, 1 << 40} {
		l = append(l, asking(api.Pred{Cmp: n, L: num(1), R: num(1)}), but(func(q *api.Query) { q.Preds[1].Cmp = n }))
	}
	for _, w := range noNames() {
		if w != "" {
			l = append(l, but(func(q *api.Query) { q.By = w }))
		}
		l = append(l, but(func(q *api.Query) { q.Items[0].Var = w }), but(func(q *api.Query) { q.Items[1].Var = w }), but(func(q *api.Query) { q.Items[2].Var = w }))
		l = append(l, but(func(q *api.Query) { q.Items[0].Names[0] = w }), but(func(q *api.Query) { q.Items[0].Names[1] = w }), but(func(q *api.Query) { q.Items[2].Names[0] = w }))
	}
	for _, n := range []int64{-1, most + 1, 1 << 62, -1 << 63} {
		l = append(l, but(func(q *api.Query) { q.Within = n }))
	}
	for _, n := range []int{0, -1, 4, 5, 1 << 40} {
		l = append(l, but(func(q *api.Query) { q.Pick = n }), but(func(q *api.Query) { q.Items[0].Mode = n }), but(func(q *api.Query) { q.Items[1].Mode = n }), but(func(q *api.Query) { q.Items[2].Mode = n }))
	}
	return append(l, wrongItems()...)
}

// wrongItems are no queries, as their items do not go together.
func wrongItems() []api.Query {
	return []api.Query{
		but(func(q *api.Query) { q.Items[0].Mode = api.Opt }),
		but(func(q *api.Query) { q.Items[0] = none("a", "x") }),
		but(func(q *api.Query) { q.Items = q.Items[1:] }),
		but(func(q *api.Query) { q.Items = q.Items[1:2] }),
		but(func(q *api.Query) { q.Items = q.Items[2:] }),
		but(func(q *api.Query) { q.Items[1].Mode = api.Plus }),
		but(func(q *api.Query) { q.Items[1].Mode = api.Opt }),
		but(func(q *api.Query) { q.Items[1].Var = "x" }),
		but(func(q *api.Query) { q.Items[2].Var = "x" }),
		but(func(q *api.Query) { q.Items[2].Var = "n" }),
		but(func(q *api.Query) { q.Items[0].Names = nil }),
		but(func(q *api.Query) { q.Items[1].Names = []string{} }),
		but(func(q *api.Query) { q.Items[0].Names = []string{"a", "b", "c", "d"} }),
		but(func(q *api.Query) { q.Items[2].Names = []string{"a", "b", "c", "d"} }),
		but(func(q *api.Query) { q.Items[0].Names = []string{"a", "a"} }),
		but(func(q *api.Query) { q.Items[1].Names = []string{"a", "b", "a"} }),
		but(func(q *api.Query) { q.Items[2].Names = []string{"b", "a", "a"} }),
		but(func(q *api.Query) { q.Items[2].Names = []string{"a", "a", "b"} }),
	}
}

// P8.1, H1: what may be a query.
func TestRight(t *testing.T) {
	for i, q := range rights() {
		if !tree.Right(q) {
			t.Errorf("%d: %.999v", i, q)
		}
	}
	for i, q := range wrongs() {
		if tree.Right(q) {
			t.Errorf("%d: %.999v", i, q)
		}
	}
}

// P8.1, H1: what is not right has no text; all else has just one.
func TestPrint(t *testing.T) {
	for i, q := range rights() {
		if got, want := tree.Print(q), plain(q); got != want {
			t.Errorf("%d: %q is not %q", i, got, want)
		}
	}
	for i, q := range wrongs() {
		if got := tree.Print(q); got != "" {
			t.Errorf("%d: %q", i, got)
		}
	}
}

// P8.1, H1: texts by the document's words.
func TestPrinted(t *testing.T) {
	is := func(x api.Expr, want string) {
		t.Helper()
		q := asking(api.Pred{Cmp: api.Ge, L: x, R: num(0)})
		if got := tree.Print(q); got != "seq a x where "+want+" >= 0 within 0 pick any" {
			t.Errorf("%q is not %q", got, want)
		}
	}
	v, one, three := of(api.ExField, "x", "v"), num(1), num(3)
	is(add(add(v, one), three), "x.v + 1 + 3")
	is(add(v, add(one, three)), "x.v + (1 + 3)")
	is(sub(sub(v, one), three), "x.v - 1 - 3")
	is(sub(v, sub(one, three)), "x.v - (1 - 3)")
	is(add(sub(v, one), sub(one, three)), "x.v - 1 + (1 - 3)")
	is(sub(add(v, add(one, three)), add(sub(one, three), v)), "x.v + (1 + 3) - (1 - 3 + x.v)")
	is(sub(num(-1), num(-most)), "-1 - -1099511627776")
	is(add(truth(0), truth(1)), "false + true")
	is(add(text(""), text("a  + b")), "'' + 'a  + b'")
	is(add(of(api.ExCount, "y", ""), of(api.ExSum, "y", "w")), "count(y) + sum(y.w)")
	is(sub(of(api.ExMin, "y", "w"), of(api.ExMax, "y", "w")), "min(y.w) - max(y.w)")
	is(num(-0), "0")
	if got := tree.Print(base()); got != baseText {
		t.Errorf("%q", got)
	}
	if got := tree.Print(least()); got != "seq a x within 0 pick any" {
		t.Errorf("%q", got)
	}
	for cmp, want := range map[int]string{api.Eq: "=", api.Ne: "!=", api.Lt: "<", api.Le: "<=", api.Gt: ">", api.Ge: ">="} {
		if got := tree.Print(asking(api.Pred{Cmp: cmp, L: one, R: three})); got != "seq a x where 1 "+want+" 3 within 0 pick any" {
			t.Errorf("%q", got)
		}
	}
	for pick, want := range map[int]string{api.Any: "any", api.Next: "next", api.Strict: "strict"} {
		q := least()
		q.Pick, q.By, q.Within = pick, "y", most
		if got := tree.Print(q); got != "seq a x within 1099511627776 by y pick "+want {
			t.Errorf("%q", got)
		}
	}
}

// P8.1, H1: how deep an expression is, right or not.
func TestDeep(t *testing.T) {
	is := func(x api.Expr, want int) {
		t.Helper()
		if got := tree.Deep(x); got != want {
			t.Errorf("%d is not %d: %.200v", got, want, x)
		}
	}
	for deep := 1; deep <= 9; deep++ {
		is(left(deep), deep)
		is(right(deep), deep)
		is(both(deep), deep)
		is(add(left(deep), right(3)), 1+max(deep, 3))
		is(sub(right(3), left(deep)), 1+max(deep, 3))
		// Kids of other kinds are not looked at.
		for _, kind := range []int{0, -1, 1, 2, 3, 4, 5, 6, 9} {
			is(two(kind, left(deep), right(deep)), 1)
			is(add(two(kind, left(deep), right(deep)), num(1)), 2)
		}
		for _, kind := range []int{api.ExAdd, api.ExSub} {
			is(api.Expr{Kind: kind, Kids: []api.Expr{left(deep)}}, 1+deep)
			is(api.Expr{Kind: kind, Kids: []api.Expr{num(1), left(deep), num(1)}}, 1+deep)
			is(api.Expr{Kind: kind, Kids: []api.Expr{num(1), num(1), num(1), both(deep)}}, 1+deep)
		}
	}
	for _, kind := range []int{api.ExAdd, api.ExSub} {
		is(api.Expr{Kind: kind}, 1)
		is(api.Expr{Kind: kind, Kids: []api.Expr{}}, 1)
		is(api.Expr{Kind: kind, Kids: []api.Expr{{Kind: kind}}}, 2)
		is(api.Expr{Kind: kind, Var: "x", Field: "v", Val: api.Val{Kind: 9}, Kids: []api.Expr{{}, {}}}, 2)
	}
	for _, x := range rightExprs() {
		if tree.Deep(x) > 6 {
			t.Errorf("%v", x)
		}
	}
	is(api.Expr{}, 1)
	is(text("'"), 1)
}

// P8.1, H1: rows of Kids that overlap are told apart.
func TestDeepOverlap(t *testing.T) {
	row := []api.Expr{num(1), left(3), left(8)}
	for n, want := range []int{1, 2, 4, 9} {
		x := add(api.Expr{Kind: api.ExAdd, Kids: row}, api.Expr{Kind: api.ExAdd, Kids: row[:n]})
		if got := tree.Deep(api.Expr{Kind: api.ExSub, Kids: row[:n]}); got != want {
			t.Error(n, got)
		}
		if got := tree.Deep(x); got != 10 {
			t.Error(n, got)
		}
	}
	if got := tree.Deep(add(api.Expr{Kind: api.ExAdd, Kids: row[:1]}, api.Expr{Kind: api.ExAdd, Kids: row[:2]})); got != 5 {
		t.Error(got)
	}
}
