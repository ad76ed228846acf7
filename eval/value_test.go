package eval_test

import (
	"fmt"
	"math"
	"slices"
	"strings"
	"testing"

	"augury/api"
	"augury/eval"
	"augury/tree"
)

const most = int64(1) << 40

func integer(n int64) api.Val { return api.Val{Kind: api.Int, N: n} }

func text(s string) api.Val { return api.Val{Kind: api.Text, S: s} }

func truth(n int64) api.Val { return api.Val{Kind: api.Bool, N: n} }

func val(v api.Val) api.Expr { return api.Expr{Kind: api.ExVal, Val: v} }

func num(n int64) api.Expr { return val(integer(n)) }

func two(kind int, a, b api.Expr) api.Expr { return api.Expr{Kind: kind, Kids: []api.Expr{a, b}} }

// of is an expression of a field, or of all that are bound of it.
func of(kind int, name, field string) api.Expr {
	return api.Expr{Kind: kind, Var: name, Field: field}
}

// made is an event of a name, with values.
func made(name string, l ...api.Val) api.Event { return api.Event{Name: name, Vals: l} }

// schema is one, of fields that are written as `name kind`.
func schema(name string, fields ...string) api.Schema {
	s := api.Schema{Name: name}
	for _, f := range fields {
		field, kind, _ := strings.Cut(f, " ")
		s.Fields = append(s.Fields, api.Field{Name: field, Kind: 1 + slices.Index([]string{"int", "text", "bool"}, kind)})
	}
	return s
}

// world are schemas whose fields stand in other places: of two of one name the first is it, of two fields too.
func world() []api.Schema {
	return []api.Schema{
		schema("a", "v int", "w int", "s text", "t bool"),
		schema("b", "s text", "v int", "t bool"),
		schema("c", "v text", "v int"),
		schema("a", "u int", "v int"),
		schema("e"),
	}
}

// parsed is a text's query.
func parsed(t testing.TB, s string) api.Query {
	t.Helper()
	q, e, at := tree.Parse(s)
	if e != api.OK {
		t.Fatal(s, e, at)
	}
	return q
}

// pred is that of a text; expr is its left side.
func pred(t testing.TB, s string) api.Pred {
	t.Helper()
	return parsed(t, "seq a x where "+s+" within 1").Preds[0]
}

func expr(t testing.TB, s string) api.Expr {
	t.Helper()
	return pred(t, s+" = 1").L
}

// wide is a query with two items of Var y, and bound is what is bound to its items: nothing to n, and no row to k and o.
func wide(t testing.TB) api.Query {
	q := parsed(t, "seq a or b x then b or a y+ then not a n then a z? then c k+ then a o within 5")
	return api.Query{Items: append(q.Items, api.Item{Names: []string{"a"}, Var: "y", Mode: api.One}, api.Item{Names: []string{"a"}, Var: "far", Mode: api.One})}
}

func bound() [][]api.Event {
	return [][]api.Event{
		{made("a", integer(3), integer(4), text("p"), truth(1))},
		{made("b", text("q"), integer(7), truth(0)), made("a", integer(-2), integer(9), text("r"), truth(1)), made("b", text("u"), integer(5), truth(1))},
		{},
		{made("a", integer(most), integer(-most), text(""), truth(0)), made("a", integer(most), integer(-most), text("'\xff"), truth(0))},
	}
}

// worth is a value, or an error.
type worth struct {
	v api.Val
	e api.Errno
}

func is(v api.Val) worth { return worth{v: v} }

func wrong(e api.Errno) worth { return worth{e: e} }

// told is an expression in words, down to a depth: there may be no end of it.
func told(x api.Expr, deep int) string {
	if deep == 0 {
		return ".."
	}
	var kids []string
	for _, k := range x.Kids[:min(len(x.Kids), 4)] {
		kids = append(kids, told(k, deep-1))
	}
	return fmt.Sprintf("%d %.80q %.20q.%.20q %d%v", x.Kind, fmt.Sprint(x.Val), x.Var, x.Field, len(x.Kids), kids)
}

// toldPred is a predicate in words.
func toldPred(p api.Pred) string {
	return fmt.Sprintf("%s <%d> %s", told(p.L, 4), p.Cmp, told(p.R, 4))
}

// asks asks what an expression is worth, of what is bound to wide.
func asks(t *testing.T, b [][]api.Event, x api.Expr, want worth) {
	t.Helper()
	if v, e := eval.Value(world(), wide(t), b, x); v != want.v || e != want.e {
		t.Errorf("%s: %v %v is not %v", told(x, 4), v, e, want)
	}
}

// values are expressions, and what they are worth.
var values = map[string]worth{
	// Values.
	"1": is(integer(1)), "-1": is(integer(-1)), "1099511627776": is(integer(most)), "-1099511627776": is(integer(-most)), "'x.v'": is(text("x.v")), "''": is(text("")), "true": is(truth(1)), "false": is(truth(0)),
	// A field: of the last event, at the place that its own schema tells.
	"x.v": is(integer(3)), "x.w": is(integer(4)), "x.s": is(text("p")), "x.t": is(truth(1)),
	"y.v": is(integer(5)), "y.s": is(text("u")), "y.t": is(truth(1)), "z.v": is(integer(most)), "z.w": is(integer(-most)), "z.s": is(text("'\xff")), "z.t": is(truth(0)),
	"x.u": wrong(api.ErrNone), "x.q": wrong(api.ErrNone), "y.w": wrong(api.ErrNone), "y.q": wrong(api.ErrNone),
	"n.v": wrong(api.ErrNone), "k.v": wrong(api.ErrNone), "o.v": wrong(api.ErrNone), "o.q": wrong(api.ErrNone), "n.q": wrong(api.ErrNone), "far.v": wrong(api.ErrNone),
	"xx.v": wrong(api.ErrArg), "q.v": wrong(api.ErrArg), "v.x": wrong(api.ErrArg), "a.v": wrong(api.ErrArg),
	// How many.
	"count(x)": is(integer(1)), "count(y)": is(integer(3)), "count(z)": is(integer(2)), "count(n)": is(integer(0)), "count(k)": is(integer(0)), "count(o)": is(integer(0)), "count(far)": is(integer(0)), "count(q)": wrong(api.ErrArg), "count(a)": wrong(api.ErrArg),
	// Sum, least and greatest, of one, of many, of none.
	"sum(x.v)": is(integer(3)), "min(x.v)": is(integer(3)), "max(x.v)": is(integer(3)), "sum(x.w)": is(integer(4)),
	"sum(y.v)": is(integer(10)), "min(y.v)": is(integer(-2)), "max(y.v)": is(integer(7)),
	"sum(z.v)": wrong(api.ErrNumber), "min(z.v)": is(integer(most)), "max(z.v)": is(integer(most)), "sum(z.w)": wrong(api.ErrNumber), "min(z.w)": is(integer(-most)), "max(z.w)": is(integer(-most)),
	"sum(y.w)": wrong(api.ErrNone), "min(y.w)": wrong(api.ErrNone), "max(y.w)": wrong(api.ErrNone), "sum(x.q)": wrong(api.ErrNone), "min(x.q)": wrong(api.ErrNone), "max(x.q)": wrong(api.ErrNone),
	"sum(x.s)": wrong(api.ErrType), "min(y.s)": wrong(api.ErrType), "max(y.t)": wrong(api.ErrType), "sum(x.t)": wrong(api.ErrType), "min(x.t)": wrong(api.ErrType), "max(x.s)": wrong(api.ErrType),
	"sum(n.v)": wrong(api.ErrNone), "min(n.v)": wrong(api.ErrNone), "max(n.v)": wrong(api.ErrNone), "sum(k.v)": wrong(api.ErrNone), "min(o.q)": wrong(api.ErrNone), "max(far.v)": wrong(api.ErrNone), "sum(q.v)": wrong(api.ErrArg), "min(q.v)": wrong(api.ErrArg), "max(q.v)": wrong(api.ErrArg),
	// Of two: with neither's error.
	"1 + 2": is(integer(3)), "1 - 2": is(integer(-1)), "x.v + x.w": is(integer(7)), "x.v - x.w": is(integer(-1)), "x.w - x.v": is(integer(1)), "count(y) + 1": is(integer(4)), "10 - sum(y.v)": is(integer(0)), "max(y.v) - min(y.v)": is(integer(9)), "y.v - x.v - 1": is(integer(1)), "y.v - (x.v - 1)": is(integer(3)), "1 + (2 + (3 + (4 + (5 + x.v))))": is(integer(18)), "1 - (2 - (3 - (4 - (5 - x.v))))": is(integer(0)),
	"1099511627775 + 1": is(integer(most)), "1 - 1099511627776 - 1": is(integer(-most)), "z.v + 0": is(integer(most)), "z.w + z.v": is(integer(0)),
	// With what is no number, and with numbers of which there is none.
	"1 + 'a'": wrong(api.ErrType), "'a' + 1": wrong(api.ErrType), "'a' - 'b'": wrong(api.ErrType), "1 + true": wrong(api.ErrType), "false - 1": wrong(api.ErrType), "true + true": wrong(api.ErrType), "'a' - true": wrong(api.ErrType), "x.s + x.v": wrong(api.ErrType), "x.v - x.t": wrong(api.ErrType),
	"1099511627776 + 1": wrong(api.ErrNumber), "1 + 1099511627776": wrong(api.ErrNumber), "-1099511627776 - 1": wrong(api.ErrNumber), "z.v + 1": wrong(api.ErrNumber), "z.v - z.w": wrong(api.ErrNumber), "z.w - z.v": wrong(api.ErrNumber), "z.v + 1 - 1": wrong(api.ErrNumber), "z.v + (1 - 1)": is(integer(most)), "0 - 1 + 1099511627776 + 1": is(integer(most)),
	// With the first one's error, the second one's, and both: the first one's.
	"n.v + 1": wrong(api.ErrNone), "1 + n.v": wrong(api.ErrNone), "q.v - 1": wrong(api.ErrArg), "1 - q.v": wrong(api.ErrArg), "sum(z.v) - 1": wrong(api.ErrNumber), "1 - sum(z.v)": wrong(api.ErrNumber), "sum(x.s) + 1": wrong(api.ErrType), "1 + sum(x.s)": wrong(api.ErrType),
	"n.v + q.v": wrong(api.ErrNone), "q.v + n.v": wrong(api.ErrArg), "n.v - sum(z.v)": wrong(api.ErrNone), "sum(z.v) - n.v": wrong(api.ErrNumber), "sum(x.s) + n.v": wrong(api.ErrType), "n.v + sum(x.s)": wrong(api.ErrNone), "q.v - sum(x.s)": wrong(api.ErrArg), "sum(x.s) - q.v": wrong(api.ErrType), "sum(z.v) + sum(x.s)": wrong(api.ErrNumber), "sum(x.s) + sum(z.v)": wrong(api.ErrType),
	// Ahead of what there is with both.
	"n.v + 'a'": wrong(api.ErrNone), "'a' + n.v": wrong(api.ErrNone), "'a' - q.v": wrong(api.ErrArg), "q.v - true": wrong(api.ErrArg), "'a' + 'b' + n.v": wrong(api.ErrType), "'a' + ('b' + n.v)": wrong(api.ErrNone), "n.v + ('b' + 'a')": wrong(api.ErrNone), "1099511627776 + 1 + n.v": wrong(api.ErrNumber), "n.v + (1099511627776 + 1)": wrong(api.ErrNone), "1 + (2 - (n.v + (q.v - 'a')))": wrong(api.ErrNone), "1 + (2 - (q.v + (n.v - 'a')))": wrong(api.ErrArg),
}

// P11.1, K1: what expressions of the language are worth.
func TestValues(t *testing.T) {
	for s, want := range values {
		asks(t, bound(), expr(t, s), want)
	}
}

// P11.1, K1: of an ExVal its Val, if that is right.
func TestValueOfVal(t *testing.T) {
	for _, v := range []api.Val{integer(0), integer(most), integer(-most), text(""), text(strings.Repeat("a", 64)), text("\x00\xff'"), truth(0), truth(1)} {
		asks(t, bound(), val(v), is(v))
		asks(t, nil, val(v), is(v))
	}
	for _, v := range odd() {
		asks(t, bound(), val(v), wrong(api.ErrArg))
		for _, kind := range []int{api.ExAdd, api.ExSub} {
			asks(t, bound(), two(kind, val(v), num(1)), wrong(api.ErrArg))
			asks(t, bound(), two(kind, num(1), val(v)), wrong(api.ErrArg))
			asks(t, bound(), two(kind, val(text("a")), val(v)), wrong(api.ErrArg))
			asks(t, bound(), two(kind, val(v), of(api.ExField, "n", "v")), wrong(api.ErrArg))
			asks(t, bound(), two(kind, of(api.ExField, "n", "v"), val(v)), wrong(api.ErrNone))
		}
	}
}

// odd are values that are not right.
func odd() []api.Val {
	return []api.Val{{}, {N: 1}, {S: "a"}, {Kind: 4, N: 1}, {Kind: -1}, {Kind: math.MinInt}, integer(most + 1), integer(-most - 1), integer(math.MaxInt64), integer(math.MinInt64), {Kind: api.Int, S: "1"}, {Kind: api.Text, N: 1}, text(strings.Repeat("a", 65)), truth(2), truth(-1), {Kind: api.Bool, S: "true"}}
}

// P11.1, K1: other kinds than 1 to 8 are no expressions, whatever else they say.
func TestOtherKinds(t *testing.T) {
	for _, kind := range []int{math.MinInt, -1, 0, 9, 10, 1 << 32, math.MaxInt} {
		asks(t, bound(), api.Expr{Kind: kind}, wrong(api.ErrArg))
		x := api.Expr{Kind: kind, Val: integer(1), Var: "x", Field: "v", Kids: []api.Expr{num(1), num(2)}}
		asks(t, bound(), x, wrong(api.ErrArg))
		asks(t, bound(), two(api.ExAdd, x, of(api.ExField, "n", "v")), wrong(api.ErrArg))
		asks(t, bound(), two(api.ExSub, of(api.ExField, "n", "v"), x), wrong(api.ErrNone))
	}
}

// P11.1, K1: Kids that are not two make none, whatever they are.
func TestKids(t *testing.T) {
	for _, kind := range []int{api.ExAdd, api.ExSub} {
		for _, kid := range []api.Expr{num(1), val(text("a")), {}, of(api.ExField, "n", "v"), of(api.ExSum, "z", "v"), two(api.ExAdd, num(1), num(1))} {
			for _, n := range []int{0, 1, 3, 4, 9} {
				x := api.Expr{Kind: kind, Val: integer(1), Var: "x", Field: "v", Kids: slices.Repeat([]api.Expr{kid}, n)}
				asks(t, bound(), x, wrong(api.ErrArg))
				// As a Kid it has that error.
				asks(t, bound(), two(kind, num(1), x), wrong(api.ErrArg))
				asks(t, bound(), two(kind, x, of(api.ExField, "n", "v")), wrong(api.ErrArg))
				asks(t, bound(), two(kind, of(api.ExField, "n", "v"), x), wrong(api.ErrNone))
			}
		}
		asks(t, bound(), api.Expr{Kind: kind}, wrong(api.ErrArg))
		asks(t, bound(), two(kind, num(0), num(0)), is(integer(0)))
		asks(t, bound(), two(kind, api.Expr{Kind: api.ExAdd}, api.Expr{Kind: api.ExSub}), wrong(api.ErrArg))
	}
}

// P11.1, K1: an expression is worth what its kind says, whatever else it says.
func TestRest(t *testing.T) {
	kids := []api.Expr{{}, of(api.ExField, "n", "v"), {}}
	for _, c := range []struct {
		x    api.Expr
		want worth
	}{
		{api.Expr{Kind: api.ExVal, Val: integer(7), Var: "q", Field: "q", Kids: kids}, is(integer(7))},
		{api.Expr{Kind: api.ExField, Val: odd()[0], Var: "x", Field: "v", Kids: kids}, is(integer(3))},
		{api.Expr{Kind: api.ExCount, Val: integer(7), Var: "y", Field: "q", Kids: kids}, is(integer(3))},
		{api.Expr{Kind: api.ExSum, Val: text("a"), Var: "y", Field: "v", Kids: kids[:2]}, is(integer(10))},
		{api.Expr{Kind: api.ExMin, Val: text("a"), Var: "y", Field: "v", Kids: kids[:1]}, is(integer(-2))},
		{api.Expr{Kind: api.ExMax, Val: text("a"), Var: "y", Field: "v", Kids: kids[:0]}, is(integer(7))},
		{api.Expr{Kind: api.ExAdd, Val: text("a"), Var: "q", Field: "q", Kids: []api.Expr{num(1), num(2)}}, is(integer(3))},
		{api.Expr{Kind: api.ExSub, Val: text("a"), Var: "n", Field: "v", Kids: []api.Expr{num(1), num(2)}}, is(integer(-1))},
	} {
		asks(t, bound(), c.x, c.want)
	}
}

// P11.1, K1: names are any texts, also those that no right query has.
func TestAnyNames(t *testing.T) {
	l := []api.Schema{{Name: "", Fields: []api.Field{{Name: "", Kind: 9}}}, {Name: "\xff", Fields: []api.Field{{Name: "seq", Kind: api.Int}, {Name: "", Kind: 0}}}}
	q := api.Query{Items: []api.Item{{Var: "\xff"}, {Var: ""}}}
	b := [][]api.Event{{made("\xff", integer(4), integer(5))}, {made("", integer(6))}}
	for _, c := range []struct {
		name, field string
		want        worth
	}{{"\xff", "seq", is(integer(4))}, {"\xff", "", is(integer(5))}, {"", "", is(integer(6))}, {"", "seq", wrong(api.ErrNone)}, {"\xfe", "", wrong(api.ErrArg)}} {
		if v, e := eval.Value(l, q, b, of(api.ExField, c.name, c.field)); v != c.want.v || e != c.want.e {
			t.Errorf("%q %q: %v %v", c.name, c.field, v, e)
		}
	}
}

// P11.1, Types: a variable's item is the first of that Var, whatever is bound to another one.
func TestFirstItem(t *testing.T) {
	b := append(bound(), nil, nil, []api.Event{made("a", integer(99))}, []api.Event{made("a", integer(98))})
	asks(t, b, expr(t, "y.v"), is(integer(5)))
	asks(t, b, expr(t, "count(y)"), is(integer(3)))
	asks(t, b, expr(t, "far.v"), is(integer(98)))
	b[1] = nil
	asks(t, b, expr(t, "y.v"), wrong(api.ErrNone))
	asks(t, b, expr(t, "count(y)"), is(integer(0)))
	// An item's names are not asked, but those of what is bound to it.
	b[0] = []api.Event{made("c", text("m"), integer(1))}
	asks(t, b, expr(t, "x.v"), is(text("m")))
}

// P11.1, Types: rows beyond the items are nobody's; an item beyond the rows has nothing.
func TestRows(t *testing.T) {
	all := append(bound(), []api.Event{made("c", text("m"))}, []api.Event{made("a", integer(1))}, nil, nil, []api.Event{made("a", integer(77))})
	for many := range len(all) + 1 {
		b := all[:many]
		for at, name := range []string{"x", "y", "n", "z", "k", "o"} {
			count := 0
			if at < many {
				count = len(all[at])
			}
			asks(t, b, api.Expr{Kind: api.ExCount, Var: name}, is(integer(int64(count))))
			want := wrong(api.ErrNone)
			if count > 0 {
				want = is([]api.Val{integer(3), integer(5), {}, integer(most), text("m"), integer(1)}[at])
			}
			asks(t, b, of(api.ExField, name, "v"), want)
		}
	}
	for _, b := range [][][]api.Event{nil, {}, {nil}, {{}}} {
		asks(t, b, expr(t, "x.v"), wrong(api.ErrNone))
		asks(t, b, expr(t, "sum(x.v)"), wrong(api.ErrNone))
		asks(t, b, expr(t, "count(x)"), is(integer(0)))
		asks(t, b, expr(t, "q.v"), wrong(api.ErrArg))
	}
}

// fields are events, and what their fields s and v are worth.
var fields = []struct {
	e    api.Event
	s, v worth
}{
	{made("b", text("q"), integer(7), truth(0)), is(text("q")), is(integer(7))},
	// Fewer Vals than fields, and more.
	{made("b", text("q"), integer(7)), is(text("q")), is(integer(7))},
	{made("b", text("q")), is(text("q")), wrong(api.ErrNone)},
	{made("b"), wrong(api.ErrNone), wrong(api.ErrNone)},
	{made("b", text("q"), integer(7), truth(0), integer(8), integer(9)), is(text("q")), is(integer(7))},
	{made("a", integer(7), integer(8)), wrong(api.ErrNone), is(integer(7))},
	{made("a"), wrong(api.ErrNone), wrong(api.ErrNone)},
	// Of a name that no schema has, of one without such a field, of one without fields, of the first of two.
	{made("d", text("q"), integer(7)), wrong(api.ErrNone), wrong(api.ErrNone)},
	{made("", text("q"), integer(7)), wrong(api.ErrNone), wrong(api.ErrNone)},
	{made("c", text("q"), integer(7)), wrong(api.ErrNone), is(text("q"))},
	{made("e", text("q"), integer(7)), wrong(api.ErrNone), wrong(api.ErrNone)},
	// Values of other kinds than their fields, and such as are not right, are what they are.
	{made("b", integer(1), text("v")), is(integer(1)), is(text("v"))},
	{made("b", truth(9), integer(math.MaxInt64)), is(truth(9)), is(integer(math.MaxInt64))},
	{made("b", api.Val{}, api.Val{Kind: 9, N: 9, S: "9"}), is(api.Val{}), is(api.Val{Kind: 9, N: 9, S: "9"})},
}

// P11.1, K1: an event's field is what stands at its place, if there is one.
func TestFields(t *testing.T) {
	for _, c := range fields {
		for _, ahead := range [][]api.Event{nil, {made("a", integer(5), integer(5), text("z"))}, {made("d"), made("")}} {
			b := [][]api.Event{append(slices.Clone(ahead), c.e)}
			asks(t, b, expr(t, "x.s"), c.s)
			asks(t, b, expr(t, "x.v"), c.v)
			asks(t, b, expr(t, "x.none"), wrong(api.ErrNone))
			if c.v.e != api.OK {
				asks(t, b, expr(t, "x.v + 1"), c.v)
			}
		}
	}
	// A sum, or a difference, with a value that is not right.
	b := [][]api.Event{{made("b", truth(9), integer(math.MaxInt64))}}
	for _, s := range []string{"x.v + 1", "1 - x.v", "x.s + 1", "'a' - x.s"} {
		asks(t, b, expr(t, s), wrong(api.ErrArg))
	}
}

// P11.1, Types: an event's time, depth and number are nothing that is asked for; its order is that of its row.
func TestInOrder(t *testing.T) {
	l := []api.Event{{Ts: 9, Depth: 3, Seq: 9, Name: "a", Vals: []api.Val{integer(1)}}, {Ts: 1, Name: "a", Vals: []api.Val{integer(2)}}, {Ts: -5, Depth: -1, Seq: -1, Name: "a", Vals: []api.Val{integer(3)}}}
	asks(t, [][]api.Event{l}, expr(t, "x.v"), is(integer(3)))
	slices.Reverse(l)
	asks(t, [][]api.Event{l}, expr(t, "x.v"), is(integer(1)))
	asks(t, [][]api.Event{l[:2]}, expr(t, "x.v"), is(integer(2)))
}
