package tree_test

import (
	"bytes"
	"reflect"
	"strings"
	"sync"
	"testing"

	"augury/api"
	"augury/lex"
	"augury/tree"
)

// wild are expressions of all kinds, with anything in them.
func wild() []api.Expr {
	var l []api.Expr
	for _, kind := range []int{-1 << 63, -1, 0, 1, 2, 3, 4, 5, 6, 7, 8, 9, 1<<63 - 1} {
		for _, v := range []api.Val{{}, {Kind: api.Int, N: -1 << 63}, {Kind: api.Int, N: 1<<63 - 1}, {Kind: api.Bool, N: 9}, {Kind: api.Bool, N: -1}, {Kind: api.Text, S: "\xff'"}, {Kind: 1 << 40}} {
			for _, s := range []string{"", "x", "'", "\xff", "seq"} {
				for _, kids := range [][]api.Expr{nil, {}, {{}}, {num(1), num(1)}, {{Kind: kind}, {Kind: kind, Kids: []api.Expr{{}}}, {}}} {
					l = append(l, api.Expr{Kind: kind, Val: v, Var: s, Field: s, Kids: kids})
				}
			}
		}
	}
	return l
}

// P1: calls end, and none panics, at all arguments.
func TestAllArguments(t *testing.T) {
	for _, x := range wild() {
		tree.Deep(x)
		tree.Deep(add(x, x))
		for _, q := range with(x) {
			if tree.Right(q) != (tree.Print(q) != "") {
				t.Errorf("%v", q)
			}
		}
	}
	for _, n := range []int{-1 << 63, -1, 0, 1, 2, 3, 4, 9, 1<<63 - 1} {
		for _, not := range []bool{false, true} {
			for _, names := range [][]string{nil, {}, {""}, {"a"}, {"\xff", "a"}} {
				q := api.Query{Items: []api.Item{{Not: not, Names: names, Mode: n}, {Not: not, Names: names, Var: "x", Mode: n}}, Preds: []api.Pred{{Cmp: n}}, Within: int64(n), By: "'", Pick: n}
				for i := range 3 {
					if tree.Right(q) || tree.Print(q) != "" {
						t.Errorf("%v", q)
					}
					q.Items = q.Items[:max(0, 1-i)]
				}
			}
		}
	}
}

// P1: whatever there is much of.
func TestMuch(t *testing.T) {
	long := strings.Repeat("a", 1<<24)
	names := make([]string, 1<<16)
	for _, q := range []api.Query{
		but(func(q *api.Query) { q.By = long }),
		but(func(q *api.Query) { q.Items[0].Var = long }),
		but(func(q *api.Query) { q.Items[0].Names[0] = long }),
		but(func(q *api.Query) { q.Items[0].Names = names }),
		but(func(q *api.Query) { q.Items = make([]api.Item, 1<<16) }),
		but(func(q *api.Query) { q.Preds = make([]api.Pred, 1<<16) }),
		but(func(q *api.Query) { q.Preds[0].L.Val.S = long }),
		asking(api.Pred{Cmp: api.Eq, L: text(long), R: num(1)}),
		asking(api.Pred{Cmp: api.Eq, L: num(1), R: api.Expr{Kind: api.ExAdd, Kids: make([]api.Expr, 1<<16)}}),
		asking(api.Pred{Cmp: api.Eq, L: left(1 << 12), R: right(1 << 12)}),
	} {
		if tree.Right(q) || tree.Print(q) != "" {
			t.Errorf("%.99v", q)
		}
	}
	for _, s := range []string{long, strings.Repeat(" ", 1<<24), strings.Repeat("(", 1<<24), baseText + long} {
		if q, e, at := tree.Parse(s); e != api.ErrTooMany || at != 0 || !same(q, api.Query{}) {
			t.Error(e, at)
		}
	}
	if got := tree.Deep(api.Expr{Kind: api.ExSub, Kids: make([]api.Expr, 1<<20)}); got != 2 {
		t.Error(got)
	}
	for _, n := range []int{1 << 12, 1 << 16} {
		one, other := left(n), right(n)
		if tree.Deep(one) != n || tree.Deep(other) != n {
			t.Error(tree.Deep(one), tree.Deep(other))
		}
	}
}

// P1: a chain may be longer than calls can be deep.
func TestChain(t *testing.T) {
	const n = 1 << 21
	x := num(1)
	for range n {
		x = api.Expr{Kind: api.ExSub, Kids: []api.Expr{x}}
	}
	if got := tree.Deep(x); got != n+1 {
		t.Error(got)
	}
	for _, q := range with(x) {
		if tree.Right(q) || tree.Print(q) != "" {
			t.Error("a chain is right")
		}
	}
}

// P1: a row may be the Kids of many, so that by each anew there would be no end.
func TestShared(t *testing.T) {
	x := num(1)
	for deep := 2; deep < 200; deep++ {
		x = two(api.ExAdd+deep%2, x, x)
		if got := tree.Deep(x); got != deep {
			t.Error(deep, got)
		}
		for _, q := range with(x) {
			if tree.Right(q) != (deep <= 6) || (tree.Print(q) == "") != (deep > 6) {
				t.Error(deep)
			}
		}
	}
	for i := range 2 {
		ring := two(api.ExAdd, num(1), num(1))
		ring.Kids[i] = ring
		tree.Deep(ring)
		for _, q := range with(ring) {
			if tree.Right(q) || tree.Print(q) != "" {
				t.Error("a ring has no end")
			}
		}
	}
}

// P1: whichever bytes there are, and however many.
func TestManyBytes(t *testing.T) {
	for x := range 256 {
		for _, n := range []int{0, 1, 2, 5, 16, 17, 64, 65, 66, 127, 128, 129, 511, 512, 513} {
			for _, ahead := range []string{"", "seq", "seq a x where ", "seq a x within 5", "seq a x where (((((("} {
				holds(t, ahead+string(bytes.Repeat([]byte{byte(x)}, n)))
			}
		}
	}
	for _, k := range tokens() {
		for _, ahead := range []string{"", "seq ", "seq a x where ", "seq a x within 5 "} {
			for n := 1; n <= 129; n += 4 {
				holds(t, ahead+strings.Repeat(k+" ", n))
			}
		}
	}
}

// P2: with an error there is no query, and without one no place; what is not right has no text.
func TestNothingElse(t *testing.T) {
	for s, want := range map[string]api.Errno{
		";": api.ErrLex, baseText + " ;": api.ErrLex, baseText + strings.Repeat(" ", 512): api.ErrTooMany, baseText + strings.Repeat(" a", 128): api.ErrTooMany,
		baseText + " any": api.ErrParse, "": api.ErrParse, strings.TrimSuffix(baseText, "next"): api.ErrParse,
		strings.Replace(baseText, "d y", "d x", 1): api.ErrTooMany, strings.Replace(baseText, "x+", "x?", 1): api.ErrTooMany, strings.Replace(baseText, "or b", "or a", 1): api.ErrTooMany,
	} {
		if q, e, _ := tree.Parse(s); e != want || !reflect.ValueOf(clean(q)).IsZero() {
			t.Errorf("%q: %v %v", s, e, q)
		}
	}
	for _, s := range bases() {
		if _, e, at := tree.Parse(s); e != api.OK || at != 0 {
			t.Errorf("%q: %v %d", s, e, at)
		}
	}
}

// P2: of several errors that is told which the words name first.
func TestFirstError(t *testing.T) {
	// Those of lex come first, wherever they are.
	fails(t, "then or ;", api.ErrLex, 8)
	fails(t, "seq a x? where ((((((( ;", api.ErrLex, 23)
	fails(t, strings.Repeat("; ", 300), api.ErrTooMany, 0)
	fails(t, strings.Repeat("then ", 100)+strings.Repeat("a ", 6), api.ErrParse, 0)
	// What is no query by the language is told ahead of what is not right.
	fails(t, "seq not a x then b x within 5 5", api.ErrParse, 30)
	fails(t, "seq a x? where 1+1+1+1+1+1+1 = 1 within", api.ErrParse, 39)
	fails(t, "seq a x? within 5", api.ErrTooMany, 0)
	// Of what cannot stand where it does, the first is told.
	fails(t, "seq a a a a within within", api.ErrParse, 8)
	fails(t, "seq a x where (((((((1 1) within", api.ErrParse, 20)
	fails(t, "seq a x where (1 1 (((((((", api.ErrParse, 17)
}

// roomy is base, with spare room in each list; rooms are these lists with their room.
func roomy() (q api.Query, rooms func() []any) {
	q = base()
	q.Items = append(q.Items, item("spare", "s", 9), item("spare", "s", 9))[:len(q.Items)]
	q.Preds = append(q.Preds, api.Pred{Cmp: 9}, api.Pred{Cmp: 9})[:len(q.Preds)]
	for i := range q.Items {
		q.Items[i].Names = append(q.Items[i].Names, "spare", "spare")[:len(q.Items[i].Names)]
	}
	x := &q.Preds[0].L
	x.Kids = append(x.Kids, num(99))[:2]
	x.Kids[1].Kids = append(x.Kids[1].Kids, num(98))[:2]
	return q, func() []any {
		l := []any{q.Items[:cap(q.Items)], q.Preds[:cap(q.Preds)], x.Kids[:cap(x.Kids)], x.Kids[1].Kids[:cap(x.Kids[1].Kids)]}
		for _, i := range q.Items {
			l = append(l, i.Names[:cap(i.Names)])
		}
		return l
	}
}

// P3: what is handed in is not changed, nor its spare room.
func TestHandedIn(t *testing.T) {
	q, rooms := roomy()
	want, wantRooms := roomy()
	if !tree.Right(q) || tree.Print(q) != baseText || tree.Deep(q.Preds[0].L) != 3 {
		t.Errorf("%v", q)
	}
	if !reflect.DeepEqual(q, want) || !reflect.DeepEqual(rooms(), wantRooms()) {
		t.Errorf("%v is not %v", rooms(), wantRooms())
	}
	// A text is not kept: its memory may be written to behind the call.
	room := []byte(baseText + "behind")
	got, e, _ := tree.Parse(string(room[:len(baseText)]))
	for i := range room {
		room[i] = '-'
	}
	if e != api.OK || !same(got, base()) {
		t.Errorf("%v %v", e, got)
	}
}

// spoil writes to all of an expression's lists, with their spare room.
func spoil(x api.Expr) {
	for _, k := range x.Kids {
		spoil(k)
	}
	l := x.Kids[:cap(x.Kids)]
	for i := range l {
		l[i] = of(9, "spoilt", "spoilt")
	}
}

// P3: lists that come out are new memory, their spare room too, and no two share any.
func TestComesOut(t *testing.T) {
	for _, s := range bases() {
		one, _, _ := tree.Parse(s)
		other, _, _ := tree.Parse(s)
		want := clean(other)
		for _, i := range one.Items {
			l := i.Names[:cap(i.Names)]
			for n := range l {
				l[n] = "spoilt"
			}
		}
		for i := range one.Items {
			if i > 0 && one.Items[i].Var != want.Items[i].Var {
				t.Errorf("%q", s)
			}
		}
		for _, p := range one.Preds {
			spoil(p.L)
			spoil(p.R)
		}
		for _, p := range one.Preds[:cap(one.Preds)][len(one.Preds):] {
			spoil(p.L)
		}
		clear(one.Items[:cap(one.Items)])
		clear(one.Preds[:cap(one.Preds)])
		if again, _, _ := tree.Parse(s); !same(other, want) || !same(again, want) {
			t.Errorf("%q: %v %v", s, other, again)
		}
	}
	// Lists of one answer may grow without being seen in one another.
	q, _, _ := tree.Parse("seq a or b x then c or d y where 1+2 = 3+4 and 5-6 != 7-8 within 5")
	want := clean(q)
	for i := range q.Items {
		_ = append(q.Items[i].Names, "spoilt", "spoilt")
	}
	for _, p := range q.Preds {
		_ = append(p.L.Kids, api.Expr{}, api.Expr{})
		_ = append(p.R.Kids, api.Expr{}, api.Expr{})
	}
	_, _ = append(q.Items, api.Item{}, api.Item{}), append(q.Preds, api.Pred{}, api.Pred{})
	if !same(q, want) {
		t.Errorf("%v is not %v", q, want)
	}
}

// P3: the same answers come, whatever was asked in between.
func TestSameAgain(t *testing.T) {
	asked := func(between func()) {
		t.Helper()
		between()
		if q, e, at := tree.Parse(baseText); e != api.OK || at != 0 || !same(q, base()) {
			t.Error(e, at, q)
		}
		if q, e, at := tree.Parse("seq a x where (1 1"); e != api.ErrParse || at != 17 || !same(q, api.Query{}) {
			t.Error(e, at, q)
		}
		if tree.Print(base()) != baseText || tree.Right(api.Query{}) || tree.Deep(left(6)) != 6 {
			t.Error("not the same again")
		}
	}
	for _, s := range append(bases(), "", ";", "seq", "seq a x where ((((((1", "seq a x where (((((((1", "seq a x?", "seq a x? within 5") {
		asked(func() { tree.Parse(s) })
	}
	for _, q := range append(rights()[:9], wrongs()[:9]...) {
		asked(func() { tree.Print(q) })
		asked(func() { tree.Right(q) })
	}
	for deep := range 9 {
		asked(func() { tree.Deep(left(1 + deep)) })
	}
}

// P3: calls that are made at once see nothing of one another.
func TestAtOnce(t *testing.T) {
	q := base()
	var all sync.WaitGroup
	for n := range 8 {
		all.Go(func() {
			r := dice(n)
			for range 200 {
				own := r.query(1+r.below(3), r.below(3), 1+r.below(4))
				s := plain(own)
				got, e, _ := tree.Parse(s)
				_, err, _ := lex.Read(s)
				if e != err || e == api.OK && !same(got, own) || tree.Print(own) != s || tree.Print(q) != baseText || !tree.Right(q) || tree.Deep(q.Preds[0].L) != 3 {
					t.Errorf("%q: %v", s, e)
				}
			}
		})
	}
	all.Wait()
}
