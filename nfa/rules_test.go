package nfa_test

import (
	"fmt"
	"math"
	"reflect"
	"slices"
	"strconv"
	"strings"
	"sync"
	"testing"

	"augury/api"
	"augury/nfa"
	"augury/tree"
)

// wildQueries are of anything, and not right.
func wildQueries() []api.Query {
	l := []api.Query{{}, {Items: []api.Item{}}, {Items: []api.Item{{}}}, {Items: make([]api.Item, 9)}, {Preds: make([]api.Pred, 9)}}
	for _, n := range []int{math.MinInt, -1, 0, 1, 2, 3, 4, math.MaxInt} {
		for _, names := range [][]string{nil, {}, {""}, {"a"}, {"\xff", "a"}, {"x", "x", "x", "x"}} {
			for _, v := range []string{"", "x", "'", "\xff", "seq"} {
				l = append(l, api.Query{Items: []api.Item{{Not: n == 0, Names: names, Var: v, Mode: n}, {Not: n == 1, Names: names, Var: v, Mode: n}}, Preds: []api.Pred{{Cmp: n}}, Within: int64(n), By: v, Pick: n})
			}
		}
	}
	return l
}

// wildRows are of names of anything, none among them.
func wildRows() [][]string {
	return [][]string{nil, {}, {""}, {"", ""}, {"a"}, {"a", ""}, {"", "a"}, {"x"}, {"\xff"}, {"a", "\xff"}, {"seq"}, {"'"}, {strings.Repeat("a", 99)}, slices.Repeat([]string{""}, 99), slices.Repeat([]string{"a"}, 99), slices.Repeat([]string{"x"}, 4)}
}

// P1, P2: calls end, and none panics, at all arguments; of a query that is not right there is nothing.
func TestAllArguments(t *testing.T) {
	for _, q := range append(wildQueries(), wrongs()...) {
		if l := nfa.Compile(q); len(l) > 0 {
			t.Errorf("%v: %s", q, told(l))
		}
		for _, names := range wildRows() {
			if nfa.Accepts(q, names) {
				t.Errorf("%v: %q", q, names)
			}
		}
	}
	many := 0
	for _, shape := range slices.Concat(shapes(1), shapes(2), shapes(6)) {
		for _, names := range wildRows() {
			q := shaped(shape, []string{"a", "x"})
			want := sketchAccepts(q, names)
			accepts(t, q, names, want)
			if want {
				many++
			}
		}
	}
	if many < 300 {
		t.Error("too few", many)
	}
}

// P1: no items, nil names, and names that are empty.
func TestNothing(t *testing.T) {
	for _, items := range [][]api.Item{nil, {}, make([]api.Item, 0, 9)} {
		for _, q := range []api.Query{{Items: items}, {Items: items, Within: 5, Pick: api.Any}} {
			if l := nfa.Compile(q); len(l) > 0 {
				t.Error(told(l))
			}
			for _, names := range wildRows() {
				accepts(t, q, names, false)
			}
		}
	}
	for many := 1; many <= api.MaxItems; many++ {
		for _, shape := range shapes(many) {
			q := shaped(shape, each("abcdef")...)
			for _, names := range [][]string{nil, {}, {""}, {"", ""}, {"a", ""}, {"", "a"}, make([]string, many)} {
				accepts(t, q, names, false)
			}
			q.Items[many-1].Names = []string{""}
			accepts(t, q, nil, false)
			accepts(t, q, []string{""}, false)
			accepts(t, q, []string{"a"}, false)
		}
	}
}

// P1: whatever there is much of.
func TestMuch(t *testing.T) {
	const many = 1 << 16
	long := strings.Repeat("a", 1<<24)
	var items []api.Item
	for i := range many {
		items = append(items, api.Item{Names: []string{"a"}, Var: "x" + strconv.Itoa(i), Mode: 1 + i%3})
	}
	row := api.Expr{Kind: api.ExAdd, Kids: make([]api.Expr, many)}
	for i, change := range []func(q *api.Query){
		func(q *api.Query) { q.Items = items },
		func(q *api.Query) { q.Items = items[:7] },
		func(q *api.Query) { q.Items[0].Names = make([]string, many) },
		func(q *api.Query) { q.Items[0].Names[0] = long },
		func(q *api.Query) { q.Items[0].Var = long },
		func(q *api.Query) { q.By = long },
		func(q *api.Query) { q.Preds = make([]api.Pred, many) },
		func(q *api.Query) { q.Preds = []api.Pred{{Cmp: api.Eq, L: row, R: row}} },
	} {
		q := pattern(t, "a x then b y?")
		change(&q)
		if l := nfa.Compile(q); len(l) > 0 || nfa.Accepts(q, []string{"a"}) || nfa.Accepts(q, []string{long}) {
			t.Error(i, len(l))
		}
	}
	q := pattern(t, "a x+ then aaaaaaaaaaaaaaaa y+")
	accepts(t, q, slices.Repeat([]string{long}, many), false)
	accepts(t, q, append(slices.Repeat([]string{"a"}, many), long), false)
	accepts(t, q, append(slices.Repeat([]string{"a"}, many), slices.Repeat([]string{long[:api.MaxWord]}, many)...), true)
}

// P1: an expression may be deeper than may be, and below itself: its query is not right.
func TestDeep(t *testing.T) {
	one := api.Expr{Kind: api.ExVal, Val: api.Val{Kind: api.Int, N: 1}}
	x := one
	for deep := 1; deep < 200; deep++ {
		q := pattern(t, "a x then b y?")
		q.Preds = []api.Pred{{Cmp: api.Eq, L: one, R: x}}
		want := ""
		if deep <= api.MaxDeep {
			want = "0 | 1 . | ."
		}
		if got := told(nfa.Compile(q)); got != want || nfa.Accepts(q, []string{"a", "b"}) != (want != "") {
			t.Errorf("%d: %s", deep, got)
		}
		x = api.Expr{Kind: api.ExAdd, Kids: []api.Expr{x, x}}
	}
	ring := api.Expr{Kind: api.ExSub, Kids: []api.Expr{one, one}}
	ring.Kids[1] = ring
	q := pattern(t, "a x")
	q.Preds = []api.Pred{{Cmp: api.Eq, L: ring, R: one}}
	if l := nfa.Compile(q); len(l) > 0 || nfa.Accepts(q, []string{"a"}) {
		t.Error(told(l))
	}
}

// roomier is a list with spare room, that holds something.
func roomier[T any](l []T, spare T) []T { return append(slices.Clone(l), spare, spare)[:len(l)] }

// handed is what is handed in, with spare room in each list.
type handed struct {
	q     api.Query
	names []string
}

func roomy(t *testing.T) handed {
	h := handed{q: parsed(t, "seq a or b x+ then not c n then b y? then d z+ where x.v + (1 + 2) > y.v - 1 and n.v = x.v within 5 by v"), names: roomier([]string{"a", "b", "b", "d", "d"}, "d")}
	h.q.Items = roomier(h.q.Items, api.Item{Names: []string{"e"}, Var: "spare", Mode: api.One})
	for i := range h.q.Items {
		h.q.Items[i].Names = roomier(h.q.Items[i].Names, "spare")
	}
	h.q.Preds = roomier(h.q.Preds, api.Pred{Cmp: 9})
	x := &h.q.Preds[0].L
	x.Kids = roomier(x.Kids, api.Expr{Kind: 9})
	x.Kids[1].Kids = roomier(x.Kids[1].Kids, api.Expr{Kind: 9})
	return h
}

// rooms are all lists, with their spare room.
func (h handed) rooms() []any {
	x := h.q.Preds[0].L
	l := []any{h.names[:cap(h.names)], h.q.Items[:cap(h.q.Items)], h.q.Preds[:cap(h.q.Preds)], x.Kids[:cap(x.Kids)], x.Kids[1].Kids[:cap(x.Kids[1].Kids)]}
	for _, it := range h.q.Items {
		l = append(l, it.Names[:cap(it.Names)])
	}
	return l
}

// asks asks both calls of what is handed in.
func (h handed) asks(t *testing.T, states string, is bool) {
	t.Helper()
	if got := told(nfa.Compile(h.q)); got != states {
		t.Errorf("%s is not %s", got, states)
	}
	if got := nfa.Accepts(h.q, h.names); got != is {
		t.Errorf("%v of %q", got, h.names)
	}
}

// P3: what is handed in is not changed, nor its spare room; and not kept.
func TestHandedIn(t *testing.T) {
	h, want := roomy(t), roomy(t)
	h.asks(t, "0 | 0 2 3 !1 | 2 3 | 3 | 3 .", true)
	if !reflect.DeepEqual(h, want) || !reflect.DeepEqual(h.rooms(), want.rooms()) {
		t.Errorf("%v is not %v", h.rooms(), want.rooms())
	}
	l := nfa.Compile(h.q)
	for i, c := range []struct {
		change func()
		states string
		is     bool
	}{
		{func() { h.names[4] = "c" }, "0 | 0 2 3 !1 | 2 3 | 3 | 3 .", false},
		{func() { h.names[4] = "d"; h.q.Items[2].Mode = api.One }, "0 | 0 2 !1 | 2 | 3 | 3 .", true},
		{func() { h.q.Items[0].Mode = api.One }, "0 | 2 !1 | 2 | 3 | 3 .", false},
		{func() { h.q.Items[1].Not = false }, "0 | 1 | 2 | 3 | 3 .", false},
		{func() { h.q.Items[1].Names[0] = "b" }, "0 | 1 | 2 | 3 | 3 .", true},
		{func() { h.q.Items[3].Mode = api.Opt }, "0 | 1 | 2 | 3 . | .", false},
		{func() { h.names = h.names[:4] }, "0 | 1 | 2 | 3 . | .", true},
		{func() { h.q.Items[3].Names[0] = "e" }, "0 | 1 | 2 | 3 . | .", false},
		{func() { h.q.Items = h.q.Items[:3] }, "0 | 1 | 2 | .", false},
		{func() { h.names = h.names[:3] }, "0 | 1 | 2 | .", true},
		{func() { h.q.Pick = 0 }, "", false},
	} {
		c.change()
		h.asks(t, c.states, c.is)
		if t.Failed() {
			t.Fatal(i)
		}
	}
	if got := told(l); got != "0 | 0 2 3 !1 | 2 3 | 3 | 3 ." {
		t.Error(got)
	}
	want.asks(t, "0 | 0 2 3 !1 | 2 3 | 3 | 3 .", true)
}

// P3: lists that come out are new memory, their spare room too, and no two share any.
func TestComesOut(t *testing.T) {
	for many := 1; many <= api.MaxItems; many++ {
		for _, shape := range shapes(many) {
			q := shaped(shape, each("abcdef")...)
			want := told(nfa.Compile(q))
			// Lists may grow, and be written to, without being seen in one another.
			l := nfa.Compile(q)
			for i := range l {
				_ = append(l[i].Next, -7, -7, -7)
				_ = append(l[i].Guards, -8, -8, -8)
			}
			_ = append(l, api.State{}, api.State{})
			for i := range l {
				for _, row := range []*[]int{&l[i].Next, &l[i].Guards} {
					own := slices.Clone(*row)
					spoil(*row)
					*row = own
				}
				if got := told(l); got != want {
					t.Errorf("%s: %s is not %s", shape, got, want)
				}
			}
			for i := range l {
				spoil(l[i].Next)
				spoil(l[i].Guards)
			}
			clear(l[:cap(l)])
			if got := told(nfa.Compile(q)); got != want {
				t.Errorf("%s: %s is not %s", shape, got, want)
			}
		}
	}
}

// spoil writes to all of a list, with its spare room.
func spoil(l []int) {
	for i := range l[:cap(l)] {
		l[:cap(l)][i] = -9
	}
}

// P3: the same answers come, whatever was asked in between.
func TestSameAgain(t *testing.T) {
	r := dice(124)
	for range 5 {
		for items, want := range compiled {
			q := r.query()
			nfa.Compile(q)
			nfa.Accepts(q, r.row(q))
			nfa.Accepts(api.Query{}, nil)
			if got := told(nfa.Compile(pattern(t, items))); got != want {
				t.Errorf("%s: %s is not %s", items, got, want)
			}
		}
		for items, c := range accepted {
			q := pattern(t, items)
			for i := range max(len(c.yes), len(c.no)) {
				accepts(t, q, strings.Fields(c.yes[i%len(c.yes)]), true)
				accepts(t, q, strings.Fields(c.no[i%len(c.no)]), false)
			}
		}
	}
}

// P3: calls that are made at once, of one query too, see nothing of one another.
func TestAtOnce(t *testing.T) {
	q := pattern(t, "a or b x+ then not c n then b y? then d z+")
	names := []string{"a", "b", "b", "d"}
	var all sync.WaitGroup
	for n := range 8 {
		all.Go(func() {
			r := dice(n)
			for range 500 {
				own := r.query()
				row := r.row(own)
				if got, want := told(nfa.Compile(own)), told(sketchStates(own)); got != want {
					t.Errorf("%s: %s is not %s", tree.Print(own), got, want)
				}
				if got := fmt.Sprint(nfa.Accepts(own, row), nfa.Accepts(q, names), nfa.Accepts(q, names[:3])); got != fmt.Sprint(sketchAccepts(own, row), true, false) {
					t.Errorf("%s: %s of %q", tree.Print(own), got, row)
				}
				if got := told(nfa.Compile(q)); got != "0 | 0 2 3 !1 | 2 3 | 3 | 3 ." {
					t.Error(got)
				}
			}
		})
	}
	all.Wait()
}
