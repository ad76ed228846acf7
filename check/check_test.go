package check_test

import (
	"fmt"
	"slices"
	"strings"
	"testing"

	"augury/api"
	"augury/check"
	"augury/tree"
)

// parsed is a text's query.
func parsed(t testing.TB, text string) api.Query {
	q, e, at := tree.Parse(text)
	if e != api.OK {
		t.Fatal(text, e, at)
	}
	return q
}

// answers asks whether a query of schemas is answered so.
func answers(t *testing.T, l []api.Schema, q api.Query, want api.Errno, at int) {
	t.Helper()
	if got, place := check.Check(l, q); got != want || place != at {
		t.Errorf("%q: %d at %d is not %d at %d", tree.Print(q), got, place, want, at)
	}
}

// more are schemas that stand behind those of the world: of its names, of others, and what is none.
func more() []api.Schema {
	return append(slices.Clone(world()[4:]), schema("b"), schema("c", "v text", "id bool"), schema("a", "z bool", "by int"), schema("f", "v int"), schema("", "v int"), schema("f", "id none"), schema("d", "id none", "id text"))
}

// texts are queries of the world, and what is answered to them.
var texts = []struct {
	text string
	want api.Errno
	at   int
}{
	{"seq a x within 5", api.OK, 0},
	{"seq a or b or c x then not a n then d y? then c or b z+ within 5 by v pick next", api.OK, 0},
	{"seq a x then not b n then d y? where x.v + count(y) = sum(y.v) + 1 and n.v < x.v and 'u' != x.id within 5 by id pick strict", api.OK, 0},
	// A name that no schema has: in the first item, in a later one, in a Not, last of three.
	{"seq e x within 5", api.ErrNone, 0},
	{"seq a or e x then e y within 5", api.ErrNone, 0},
	{"seq a or b or e x within 5", api.ErrNone, 0},
	{"seq a x then b y then c or e z then e w within 5", api.ErrNone, 2},
	{"seq a x then not e n within 5", api.ErrNone, 1},
	{"seq a x then b y then c z then d w then a u then b or c or v v within 5", api.ErrNone, 5},
	// By: of all, of some, of other Kinds, of none.
	{"seq a x then b y within 5 by id", api.OK, 0},
	{"seq a or b x then d y within 5 by id", api.OK, 0},
	{"seq c x then c y within 5 by id", api.OK, 0},
	{"seq c x then c y within 5 by odd", api.OK, 0},
	{"seq b x then b y within 5 by m", api.OK, 0},
	{"seq a x then c y within 5 by m", api.OK, 0},
	{"seq a or c x then c or a y within 5 by m", api.OK, 0},
	{"seq a x then b y within 5 by t", api.OK, 0},
	{"seq a x within 5 by o", api.OK, 0},
	{"seq a x then b y within 5 by o", api.ErrCheck, 1},
	{"seq b x then a y within 5 by o", api.ErrCheck, 0},
	{"seq a or b x then a y within 5 by o", api.ErrCheck, 0},
	{"seq b or a x then a y within 5 by o", api.ErrCheck, 0},
	{"seq a x then a or b y then b z within 5 by o", api.ErrCheck, 1},
	{"seq a x then a y then a z then a or b w within 5 by o", api.ErrCheck, 3},
	{"seq a x then not b n within 5 by o", api.ErrCheck, 1},
	{"seq a x then not a n within 5 by o", api.OK, 0},
	{"seq a x within 5 by q", api.ErrCheck, 0},
	{"seq a x within 5 by a", api.ErrCheck, 0},
	{"seq a x within 5 by x", api.ErrCheck, 0},
	{"seq a x within 5 by p", api.ErrCheck, 0},
	{"seq a x then c y within 5 by id", api.ErrCheck, 1},
	{"seq c x then a y within 5 by id", api.ErrCheck, 1},
	{"seq a or c x then a y within 5 by id", api.ErrCheck, 0},
	{"seq c or a x then c y within 5 by id", api.ErrCheck, 0},
	{"seq a x then b y then c z then c w within 5 by id", api.ErrCheck, 2},
	{"seq a x then not c n then b y within 5 by id", api.ErrCheck, 1},
	{"seq a x then not b or c n then b y within 5 by id", api.ErrCheck, 1},
	{"seq a x then b y within 5 by m", api.ErrCheck, 1},
	{"seq b x then c or a y within 5 by m", api.ErrCheck, 1},
	// Of Kind 0 it is none.
	{"seq c x within 5 by z", api.ErrCheck, 0},
	{"seq c x then c y within 5 by z", api.ErrCheck, 0},
	{"seq a x then c y within 5 by z", api.ErrCheck, 1},
	{"seq b x then c y within 5 by z", api.ErrCheck, 0},
	{"seq d x within 5 by w", api.ErrCheck, 0},
	{"seq d x then a y within 5 by v", api.OK, 0},
	// A side that has no kind, sides of unlike ones, what they name.
	{"seq a x where x.o = 1 within 5", api.OK, 0},
	{"seq a x where x.q = 1 within 5", api.ErrType, 0},
	{"seq a x where 1 = x.q within 5", api.ErrType, 0},
	{"seq a x where x.q = x.q within 5", api.ErrType, 0},
	{"seq c x where x.z = x.z within 5", api.ErrType, 0},
	{"seq c x where x.odd = x.odd and x.odd < x.odd within 5", api.OK, 0},
	{"seq c x where x.odd = 1 within 5", api.ErrType, 0},
	{"seq a x where y.v = 1 within 5", api.ErrType, 0},
	{"seq a x where x.v = x.v and 1 = 1 and 1 = y.v within 5", api.ErrType, 2},
	{"seq a x where count(y) = 0 within 5", api.ErrType, 0},
	{"seq a or b x where x.m = x.m within 5", api.ErrType, 0},
	{"seq a or b x where x.o = x.o within 5", api.ErrType, 0},
	{"seq a x then b y where x.m = y.m within 5", api.ErrType, 0},
	{"seq a x then c y where x.m = y.m within 5", api.OK, 0},
	{"seq a x then not a n where count(n) = 0 within 5", api.ErrType, 0},
	{"seq a x then not a n where sum(n.v) = 0 within 5", api.ErrType, 0},
	{"seq a x where min(x.v) = max(x.v) within 5", api.OK, 0},
	{"seq a x where min(x.s) = max(x.s) within 5", api.ErrType, 0},
	{"seq a x where x.s + x.s = x.s within 5", api.ErrType, 0},
	{"seq a x where x.v + (x.v - x.s) = 1 within 5", api.ErrType, 0},
	{"seq a x where x.v = x.v and x.v = 1 and x.s = 'a' and x.s = x.v and x.s = 1 within 5", api.ErrType, 3},
	{"seq a x where 1 = 1 and 1 = 1 and 1 = 1 and 1 = 1 and 1 = 1 and 1 = 1 and 1 = 1 and true > x.t within 5", api.ErrType, 7},
	// A Not, and nothing else; ahead of it, behind it, another one.
	{"seq a x then not a n then b y where n.v = 1 within 5", api.OK, 0},
	{"seq a x then not a n then b y where 1 = n.v within 5", api.OK, 0},
	{"seq a x then not a n then b y where n.v = n.o within 5", api.OK, 0},
	{"seq a x then not a n then b y where n.v + n.o - n.v = n.o within 5", api.OK, 0},
	{"seq a x then not a n then b y where n.v = x.v and x.v = n.v within 5", api.OK, 0},
	{"seq a x then not a n then b y where n.v + x.v = 1 and 1 = x.v - n.v within 5", api.OK, 0},
	{"seq a x then b y then not a n where n.v + x.v = y.v and count(y) - n.v = sum(x.v) within 5", api.OK, 0},
	{"seq a x then not a n then b y where x.v = y.v within 5", api.OK, 0},
	{"seq a x then not a n then b y where n.v = y.v within 5", api.ErrCheck, 0},
	{"seq a x then not a n then b y where y.v = n.v within 5", api.ErrCheck, 0},
	{"seq a x then not a n then b y where n.v + y.v = 1 within 5", api.ErrCheck, 0},
	{"seq a x then not a n then b y where 1 = y.v - n.v within 5", api.ErrCheck, 0},
	{"seq a x then not a n then b y where x.v + y.v = n.v within 5", api.ErrCheck, 0},
	{"seq a x then not a n then b y where n.v = count(y) within 5", api.ErrCheck, 0},
	{"seq a x then not a n then b y where max(y.v) = n.v within 5", api.ErrCheck, 0},
	{"seq a x then not a n then b y where 1 + (2 + (3 - (4 + n.v))) = 1 + (2 + (3 - (4 + y.v))) within 5", api.ErrCheck, 0},
	{"seq a x then not a n then not b m where n.v = m.v within 5", api.ErrCheck, 0},
	{"seq a x then not a n then not b m where m.v = n.v within 5", api.ErrCheck, 0},
	{"seq a x then not a n then not b m where m.v + n.v = 1 within 5", api.ErrCheck, 0},
	{"seq a x then not a n then b y then not b m where m.v = n.v within 5", api.ErrCheck, 0},
	{"seq a x then not a n then b y then not b m where m.v = y.v and m.v = x.v and n.v = x.v within 5", api.OK, 0},
	{"seq a x then not a n then b y then not b m where m.v = m.v and n.v = n.v and y.v = n.v within 5", api.ErrCheck, 2},
	{"seq a x then not a n then not b m where n.v = x.v and x.v = m.v within 5", api.OK, 0},
	{"seq a x then not a n then b y? where 1 = 1 and n.v = 1 and x.v = 1 and n.s = y.s and n.v = y.v within 5", api.ErrCheck, 3},
}

// P9.1: which queries can be asked; or what is wrong first, and where.
func TestTexts(t *testing.T) {
	for _, c := range texts {
		answers(t, world(), parsed(t, c.text), c.want, c.at)
	}
}

// P9.1: the document's own example.
func TestExample(t *testing.T) {
	answers(t, []api.Schema{schema("a", "v int")}, parsed(t, "seq a x where x.z = 1 within 5"), api.ErrType, 0)
}

// P9.1: a query that is not right is told ahead of all else.
func TestNotRight(t *testing.T) {
	for i, change := range []func(q *api.Query){
		func(q *api.Query) { *q = api.Query{} },
		func(q *api.Query) { q.Items = nil },
		func(q *api.Query) { q.Items = slices.Repeat(q.Items, 3) },
		func(q *api.Query) { q.Items[0].Not = true },
		func(q *api.Query) { q.Items[0].Mode = api.Opt },
		func(q *api.Query) { q.Items[1].Mode = 0 },
		func(q *api.Query) { q.Items[1].Var = "x" },
		func(q *api.Query) { q.Items[1].Var = "seq" },
		func(q *api.Query) { q.Items[1].Names = nil },
		func(q *api.Query) { q.Items[1].Names = []string{"b", "b"} },
		func(q *api.Query) { q.Items[1].Names = []string{"a", "b", "c", "d"} },
		func(q *api.Query) { q.Preds = slices.Repeat(q.Preds, 9) },
		func(q *api.Query) { q.Preds[0].Cmp = 0 },
		func(q *api.Query) { q.Preds[0].Cmp = 7 },
		func(q *api.Query) { q.Preds[0].L.Val.Kind = api.Int },
		func(q *api.Query) { q.Preds[0].R = api.Expr{Kind: 9} },
		func(q *api.Query) { q.Preds[0].R.Kids = []api.Expr{q.Preds[0].L} },
		func(q *api.Query) { q.Within = -1 },
		func(q *api.Query) { q.Within = api.MaxNum + 1 },
		func(q *api.Query) { q.By = "By" },
		func(q *api.Query) { q.Pick = 0 },
		func(q *api.Query) { q.Pick = 4 },
	} {
		for _, text := range []string{"seq a x then b y where x.v = 1 within 5 by id", "seq a x then not e y where x.v + 'a' = y.v within 5 by o"} {
			q := parsed(t, text)
			change(&q)
			for _, l := range [][]api.Schema{world(), nil} {
				if e, at := check.Check(l, q); e != api.ErrArg || at != 0 {
					t.Errorf("%d: %v %d", i, e, at)
				}
			}
		}
	}
}

// P9.1: each comparison of sides of each kind.
func TestKindsCompared(t *testing.T) {
	sides := []struct {
		text string
		kind int
	}{{"1", 1}, {"x.v", 1}, {"count(x)", 1}, {"max(x.v) - 1", 1}, {"'a'", 2}, {"x.s", 2}, {"true", 3}, {"x.t", 3}, {"x.odd", 9}, {"x.z", 0}, {"x.q", 0}, {"y.v", 0}, {"sum(x.s)", 0}, {"x.t + 1", 0}}
	for cmp := api.Eq; cmp <= api.Ge; cmp++ {
		for _, l := range sides {
			for _, r := range sides {
				want, at := api.OK, 0
				if l.kind == 0 || l.kind != r.kind || l.kind == 3 && cmp > api.Ne {
					want, at = api.ErrType, 1
				}
				q := parsed(t, "seq c x where 1 = 1 within 5")
				q.Preds = append(q.Preds, api.Pred{Cmp: cmp, L: expr(t, l.text), R: expr(t, r.text)})
				answers(t, world(), q, want, at)
			}
		}
	}
}

// P9.1: of each two of the errors, and of more, that is told which the words name first; of one twice, the first.
func TestErrorsAtOnce(t *testing.T) {
	faults := []struct {
		item, by, pred string
		want           api.Errno
	}{{item: "e", want: api.ErrNone}, {by: "o", want: api.ErrCheck}, {pred: "x.v = x.s", want: api.ErrType}, {pred: "n.v = w.v", want: api.ErrCheck}}
	for mask := range 1 << len(faults) {
		for _, turned := range []bool{false, true} {
			for ahead := range 3 {
				names := []string{"b", "b", "c"}
				preds := slices.Repeat([]string{"x.v = 1"}, ahead)
				by, want, at := "v", api.OK, 0
				for i, f := range faults {
					if mask>>i&1 == 0 {
						continue
					}
					place := len(preds)
					if f.pred != "" {
						preds = append(preds, f.pred, f.pred)
					}
					if f.item != "" {
						place = ahead + 1
						names[ahead] = f.item
					}
					if f.by != "" {
						place = 1
						by = f.by
					}
					if want == api.OK {
						want, at = f.want, place
					}
				}
				// What stands ahead does not matter, if the words name it later.
				if turned && mask>>2&3 == 3 {
					slices.Reverse(preds[ahead:])
					if mask&3 == 0 {
						at += 2
					}
				}
				where := ""
				if len(preds) > 0 {
					where = " where " + strings.Join(preds, " and ")
				}
				text := fmt.Sprintf("seq a x then not %s n then %s y then %s w%s within 5 by %s", names[0], names[1], names[2], where, by)
				answers(t, world(), parsed(t, text), want, at)
			}
		}
	}
	for _, c := range []struct {
		text string
		want api.Errno
		at   int
	}{
		{"seq c x then e y where x.q = 1 within 5 by o", api.ErrNone, 1},
		{"seq c x then b y then e z within 5 by q", api.ErrNone, 2},
		{"seq e x then e y within 5 by q", api.ErrNone, 0},
		{"seq e x where x.v = 1 within 5", api.ErrNone, 0},
		{"seq a x then b y then b z within 5 by o", api.ErrCheck, 1},
		{"seq a x then not a n then b y where n.v = y.v and x.v = 'a' within 5", api.ErrType, 1},
		{"seq a x then not a n then b y where n.v = y.s within 5", api.ErrType, 0},
		{"seq a x then not a n then b y where n.v = y.v and y.v = n.v within 5", api.ErrCheck, 0},
		{"seq a x then not a n then b y where x.v = y.s and n.v = y.v within 5 by v", api.ErrType, 0},
	} {
		answers(t, world(), parsed(t, c.text), c.want, c.at)
	}
}

// P9.1: without schemas there is none of the first item's first name; nor of one that is alike.
func TestNoSchemas(t *testing.T) {
	for _, c := range texts {
		for _, l := range [][]api.Schema{nil, {}, {{}}, {schema("A")}, {schema("aa"), schema("a ")}, {schema("x", "v int")}} {
			answers(t, l, parsed(t, c.text), api.ErrNone, 0)
		}
	}
}

// P9.1: the Kinds of a schema's fields, and its names, are taken as they are.
func TestOddSchemas(t *testing.T) {
	for _, kind := range []int{-1 << 63, -1, 4, 9, 1<<63 - 1} {
		l := []api.Schema{{Name: "a", Fields: []api.Field{{Name: "v", Kind: kind}, {Name: "v", Kind: api.Int}}}, {Name: "a"}, {Name: "b", Fields: slices.Repeat([]api.Field{{Name: "v", Kind: kind}}, 20)}}
		answers(t, l, parsed(t, "seq a x then b y where x.v < y.v within 5 by v"), api.OK, 0)
		answers(t, l, parsed(t, "seq a x then b y where x.v < 1 within 5 by v"), api.ErrType, 0)
		answers(t, l, parsed(t, "seq a x then b y where x.v + 1 = 1 within 5 by v"), api.ErrType, 0)
		answers(t, l, parsed(t, "seq a x then b y where sum(x.v) = 1 within 5"), api.ErrType, 0)
	}
}
