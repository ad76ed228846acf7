package check_test

import (
	"math"
	"slices"
	"strings"
	"testing"

	"augury/api"
	"augury/check"
	"augury/tree"
)

// schema is one of a name, with fields as "v int" of any of these words; none is of Kind 0, odd of Kind 9.
func schema(name string, fields ...string) api.Schema {
	s := api.Schema{Name: name}
	for _, f := range fields {
		field, kind, _ := strings.Cut(f, " ")
		s.Fields = append(s.Fields, api.Field{Name: field, Kind: map[string]int{"int": api.Int, "text": api.Text, "bool": api.Bool, "none": 0, "odd": 9}[kind]})
	}
	return s
}

// world are schemas in which everything is: field m is of two Kinds, o only of a, z of Kind 0 in c; of d and of a there is one more behind, and of d's fields too.
func world() []api.Schema {
	return []api.Schema{
		schema("a", "v int", "s text", "t bool", "id text", "m int", "o int", "z int"),
		schema("b", "m text", "t bool", "s text", "v int", "id text"),
		schema("c", "v int", "s text", "t bool", "id int", "m int", "z none", "odd odd"),
		schema("d", "v int", "v text", "id text", "w none", "w int"),
		schema("a", "v bool", "s int", "m text", "p int"),
		schema("d", "v bool", "q int"),
	}
}

// items are those of a text.
func items(t testing.TB, text string) []api.Item {
	var l []api.Item
	for _, s := range strings.Split(text, " then ") {
		q, e, at := tree.Parse("seq a first then " + s + " within 1")
		if e != api.OK {
			t.Fatal(s, e, at)
		}
		l = append(l, q.Items[1])
	}
	return l
}

// expr is that of a text.
func expr(t testing.TB, text string) api.Expr {
	q, e, at := tree.Parse("seq a x where " + text + " = 1 within 1")
	if e != api.OK {
		t.Fatal(text, e, at)
	}
	return q.Preds[0].L
}

// wide is a query with more items than may be: x, y and n are Vars of two each.
func wide(t testing.TB) api.Query {
	return api.Query{Items: items(t, strings.Join([]string{
		"a x", "a or b y+", "a or b or c w?", "not a n", "e g", "a or e h", "c k", "d d1", "not b or c n2",
		"b x", "not c y", "b n", "e or a i", "a or c j", "c or d or e r", "b or a or c u",
	}, " then "))}
}

// known are expressions in wide: their kinds, and what they name.
var known = []struct {
	text string
	kind int
	vars []int
}{
	{"7", api.Int, nil}, {"'x.v'", api.Text, nil}, {"true", api.Bool, nil}, {"false", api.Bool, nil}, {"-1", api.Int, nil},
	// Of one name, of each Kind.
	{"x.v", api.Int, []int{0}}, {"x.s", api.Text, []int{0}}, {"x.t", api.Bool, []int{0}}, {"x.m", api.Int, []int{0}}, {"x.o", api.Int, []int{0}},
	{"x.q", 0, []int{0}}, {"x.p", 0, []int{0}}, {"x.x", 0, []int{0}}, {"x.a", 0, []int{0}},
	{"k.v", api.Int, []int{6}}, {"k.z", 0, []int{6}}, {"k.odd", 9, []int{6}}, {"k.o", 0, []int{6}},
	// Of two schemas, and of two fields, of one name the first.
	{"d1.v", api.Int, []int{7}}, {"d1.w", 0, []int{7}}, {"d1.q", 0, []int{7}},
	// Of two and three names.
	{"y.v", api.Int, []int{1}}, {"y.s", api.Text, []int{1}}, {"y.t", api.Bool, []int{1}}, {"y.id", api.Text, []int{1}}, {"y.m", 0, []int{1}}, {"y.o", 0, []int{1}}, {"y.z", 0, []int{1}}, {"y.q", 0, []int{1}},
	{"w.v", api.Int, []int{2}}, {"w.s", api.Text, []int{2}}, {"w.t", api.Bool, []int{2}}, {"w.id", 0, []int{2}}, {"w.m", 0, []int{2}}, {"w.o", 0, []int{2}}, {"w.z", 0, []int{2}}, {"w.odd", 0, []int{2}},
	{"u.v", api.Int, []int{15}}, {"u.id", 0, []int{15}}, {"u.m", 0, []int{15}}, {"u.o", 0, []int{15}},
	{"j.m", api.Int, []int{13}}, {"j.id", 0, []int{13}}, {"j.z", 0, []int{13}}, {"j.odd", 0, []int{13}},
	// Of a name without a schema.
	{"g.v", 0, []int{4}}, {"h.v", 0, []int{5}}, {"i.v", 0, []int{12}}, {"r.v", 0, []int{14}},
	// Of a Not.
	{"n.v", api.Int, []int{3}}, {"n.s", api.Text, []int{3}}, {"n.o", api.Int, []int{3}}, {"n2.v", api.Int, []int{8}}, {"n2.id", 0, []int{8}}, {"n2.m", 0, []int{8}},
	// Of no item.
	{"v.x", 0, nil}, {"a.v", 0, nil}, {"xx.v", 0, nil}, {"first.v", 0, nil},
	{"count(x)", api.Int, []int{0}}, {"count(y)", api.Int, []int{1}}, {"count(w)", api.Int, []int{2}}, {"count(g)", api.Int, []int{4}}, {"count(h)", api.Int, []int{5}}, {"count(u)", api.Int, []int{15}},
	{"count(n)", 0, []int{3}}, {"count(n2)", 0, []int{8}}, {"count(v)", 0, nil}, {"count(a)", 0, nil},
	// What is reckoned.
	{"x.v + 1", api.Int, []int{0}}, {"1 + x.v", api.Int, []int{0}}, {"1 - 2", api.Int, nil}, {"x.v - x.v", api.Int, []int{0}}, {"n.v + x.v", api.Int, []int{0, 3}},
	{"x.s + 1", 0, []int{0}}, {"1 - x.s", 0, []int{0}}, {"x.s + x.s", 0, []int{0}}, {"x.t + x.t", 0, []int{0}}, {"1 + true", 0, nil}, {"'a' - 'a'", 0, nil},
	{"xx.v + 1", 0, nil}, {"1 - xx.v", 0, nil}, {"y.m + 1", 0, []int{1}}, {"k.odd + k.odd", 0, []int{6}}, {"count(n) + 1", 0, []int{3}},
	// In one another: rising, each once.
	{"u.v - (w.v + (y.v - x.v))", api.Int, []int{0, 1, 2, 15}}, {"u.v - w.v + y.v - x.v", api.Int, []int{0, 1, 2, 15}}, {"x.v + y.v - (w.v + u.v)", api.Int, []int{0, 1, 2, 15}},
	{"(w.v + x.v) - (x.v - w.v) + (w.v + w.v)", api.Int, []int{0, 2}}, {"count(u) + sum(y.v) - (min(u.v) + max(x.v) - y.v)", api.Int, []int{0, 1, 15}},
	{"1 + (2 + (3 + (4 + (5 + x.v))))", api.Int, []int{0}}, {"1 + (2 + (3 + (4 + (5 + x.s))))", 0, []int{0}}, {"x.s + 1 + 2 + 3 + 4 + 5", 0, []int{0}}, {"1 + 2 - (3 + 4)", api.Int, nil},
	{"xx.v + (n2.v - (count(v) + k.v)) - n.v", 0, []int{3, 6, 8}}, {"n.v + n2.v", api.Int, []int{3, 8}},
}

// P9.1: the kind of an expression, and what it names.
func TestKnown(t *testing.T) {
	q := wide(t)
	for _, c := range known {
		x := expr(t, c.text)
		if got := check.Kind(world(), q, x); got != c.kind {
			t.Errorf("%s: %d is not %d", c.text, got, c.kind)
		}
		if got := check.Vars(q, x); !slices.Equal(got, c.vars) {
			t.Errorf("%s: %v is not %v", c.text, got, c.vars)
		}
	}
}

// P9.1: of a sum, a least and a greatest: of each field of which there is a kind.
func TestKindFolds(t *testing.T) {
	q := wide(t)
	for _, c := range known {
		x := expr(t, c.text)
		if x.Kind != api.ExField {
			continue
		}
		want := 0
		if not := len(c.vars) > 0 && q.Items[c.vars[0]].Not; c.kind == api.Int && !not {
			want = api.Int
		}
		for _, kind := range []int{api.ExSum, api.ExMin, api.ExMax} {
			x.Kind = kind
			if got := check.Kind(world(), q, x); got != want {
				t.Errorf("%s of %d: %d is not %d", c.text, kind, got, want)
			}
			if got := check.Vars(q, x); !slices.Equal(got, c.vars) {
				t.Errorf("%s of %d: %v is not %v", c.text, kind, got, c.vars)
			}
		}
	}
}

// P9.1: a value's kind is its own, whatever it is; it names nothing.
func TestKindVal(t *testing.T) {
	for _, kind := range []int{math.MinInt, -1, 0, api.Int, api.Text, api.Bool, 4, 9, math.MaxInt} {
		for _, v := range []api.Val{{Kind: kind}, {Kind: kind, N: 1 << 50}, {Kind: kind, N: 1, S: "x"}} {
			for _, x := range []api.Expr{{Kind: api.ExVal, Val: v}, {Kind: api.ExVal, Val: v, Var: "x", Field: "s"}} {
				if got := check.Kind(world(), wide(t), x); got != kind {
					t.Errorf("%v: %d", x, got)
				}
				if got := check.Vars(wide(t), x); len(got) > 0 {
					t.Errorf("%v: %v", x, got)
				}
			}
		}
	}
}

// P9.1: what is of none of the kinds has no kind, and names nothing.
func TestKindOfNone(t *testing.T) {
	for _, kind := range []int{math.MinInt, -7, -1, 0, 9, 10, 1 << 32, math.MaxInt} {
		x := api.Expr{Kind: kind, Val: api.Val{Kind: api.Int}, Var: "x", Field: "v", Kids: []api.Expr{expr(t, "y.v"), expr(t, "w.v")}}
		for _, field := range []string{"", "v"} {
			x.Field = field
			if got := check.Kind(world(), wide(t), x); got != 0 {
				t.Errorf("%d: %d", kind, got)
			}
			if got := check.Vars(wide(t), x); len(got) > 0 {
				t.Errorf("%d: %v", kind, got)
			}
			if got := check.Kind(world(), wide(t), api.Expr{Kind: api.ExAdd, Kids: []api.Expr{x, expr(t, "1")}}); got != 0 {
				t.Errorf("%d: %d", kind, got)
			}
		}
	}
}

// P9.1: what is made of two is of two, that are numbers both; it names what all of its Kids do.
func TestKindOfTwo(t *testing.T) {
	kids := []struct {
		text string
		kind int
		at   int
	}{{"1", api.Int, -1}, {"'a'", api.Text, -1}, {"true", api.Bool, -1}, {"x.v", api.Int, 0}, {"y.s", api.Text, 1}, {"w.t", api.Bool, 2}, {"k.odd", 9, 6}, {"x.q", 0, 0}, {"count(n)", 0, 3}, {"max(u.v)", api.Int, 15}, {"y.v - y.v", api.Int, 1}}
	for _, kind := range []int{api.ExAdd, api.ExSub} {
		for n := range 5 {
			for first := range kids {
				for second := range kids {
					x := api.Expr{Kind: kind, Var: "h", Field: "v", Val: api.Val{Kind: api.Int}}
					var want []int
					all := true
					for i := range n {
						k := kids[[]int{first, second, first, second}[i]]
						x.Kids = append(x.Kids, expr(t, k.text))
						all = all && k.kind == api.Int
						if k.at >= 0 && !slices.Contains(want, k.at) {
							want = append(want, k.at)
						}
					}
					slices.Sort(want)
					is := check.Kind(world(), wide(t), x)
					if n == 2 && all != (is == api.Int) || is != 0 && (n != 2 || is != api.Int) {
						t.Errorf("%v: %d", x, is)
					}
					if got := check.Vars(wide(t), x); !slices.Equal(got, want) {
						t.Errorf("%v: %v is not %v", x, got, want)
					}
				}
			}
		}
	}
}

// P9.1: of Kids that are not two there is no kind, however deep they are.
func TestKindOfKidsWithin(t *testing.T) {
	one := expr(t, "1")
	for n := range 5 {
		x := api.Expr{Kind: api.ExAdd, Kids: slices.Repeat([]api.Expr{one}, n)}
		for deep := range 9 {
			want := 0
			if n == 2 {
				want = api.Int
			}
			if got := check.Kind(world(), wide(t), x); got != want {
				t.Errorf("%d Kids, %d deep: %d", n, deep, got)
			}
			x = api.Expr{Kind: api.ExSub, Kids: [][]api.Expr{{x, one}, {one, x}, {x, x}}[deep%3]}
		}
	}
}

// P9.1: the item of a variable is the first of that Var, be it a Not or none.
func TestFirstItem(t *testing.T) {
	q := api.Query{Items: items(t, "not a x then b x then b y then not a y")}
	for _, c := range []struct {
		text string
		kind int
		at   int
	}{{"x.m", api.Int, 0}, {"x.o", api.Int, 0}, {"count(x)", 0, 0}, {"sum(x.v)", 0, 0}, {"y.m", api.Text, 2}, {"y.o", 0, 2}, {"count(y)", api.Int, 2}, {"max(y.v)", api.Int, 2}} {
		if got := check.Kind(world(), q, expr(t, c.text)); got != c.kind {
			t.Errorf("%s: %d is not %d", c.text, got, c.kind)
		}
		if got := check.Vars(q, expr(t, c.text)); !slices.Equal(got, []int{c.at}) {
			t.Errorf("%s: %v is not %d", c.text, got, c.at)
		}
	}
}

// P9.1: an item that has no names has no field.
func TestNoNames(t *testing.T) {
	for _, not := range []bool{false, true} {
		q := api.Query{Items: []api.Item{{Not: not, Var: "x"}, {Names: []string{"a"}, Var: "x"}}}
		for _, s := range []string{"x.v", "sum(x.v)", "min(x.v)", "max(x.v)"} {
			if got := check.Kind(world(), q, expr(t, s)); got != 0 {
				t.Errorf("%s: %d", s, got)
			}
		}
	}
}

// P9.1: names of items, of variables and of fields need be none to be found.
func TestAnyNames(t *testing.T) {
	for _, s := range []string{"", "seq", "A b", "\xff", strings.Repeat("a", 99)} {
		l := []api.Schema{{Name: s, Fields: []api.Field{{Name: s, Kind: api.Int}}}}
		q := api.Query{Items: []api.Item{{}, {Names: []string{s, s}, Var: s + "x"}}}
		for kind := api.ExField; kind <= api.ExMax; kind++ {
			x := api.Expr{Kind: kind, Var: s + "x", Field: s}
			if check.Kind(l, q, x) != api.Int || !slices.Equal(check.Vars(q, x), []int{1}) {
				t.Errorf("%q: %d %v", s, check.Kind(l, q, x), check.Vars(q, x))
			}
		}
	}
}

// P9.1: without schemas, or items, nothing but a value and a count has a kind.
func TestKindOfNothing(t *testing.T) {
	for _, c := range known {
		x := expr(t, c.text)
		for _, l := range [][]api.Schema{nil, {}, {{}}, {schema("v", "v int")}} {
			if got := check.Kind(l, wide(t), x); x.Kind == api.ExField && got != 0 || (x.Kind == api.ExVal || x.Kind == api.ExCount) && got != c.kind {
				t.Errorf("%s: %d", c.text, got)
			}
		}
		for _, q := range []api.Query{{}, {Items: []api.Item{}}, {Items: items(t, "a zz")}} {
			got := check.Kind(world(), q, x)
			if x.Kind == api.ExVal && got != c.kind || len(c.vars) > 0 && got != 0 || len(check.Vars(q, x)) > 0 {
				t.Errorf("%s: %d", c.text, got)
			}
		}
	}
}
