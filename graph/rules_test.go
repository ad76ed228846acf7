package graph_test

import (
	"fmt"
	"math"
	"reflect"
	"slices"
	"strings"
	"sync"
	"testing"

	"augury/api"
	"augury/graph"
)

// wildVersions are rows of anything, some right.
func wildVersions(t *testing.T) [][]api.Version {
	q := parsed(t, "a x then not p n then q or r y?")
	l := [][]api.Version{nil, {}, {{}}, {drop(0)}, {{Query: q}, drop(1)}, {{Query: q}}, make([]api.Version, 9), slices.Repeat([]api.Version{{Query: q}}, 2)}
	for _, n := range []int{math.MinInt, -1, 0, 1, 4, math.MaxInt} {
		for _, names := range [][]string{nil, {}, {""}, {"", ""}, {"p"}, {"p", "q", "r"}, {"\xff", "p"}, {"p", "p", "p", "p"}} {
			wild := api.Query{Items: []api.Item{{Names: names, Var: "x", Mode: n}}, Within: int64(n), By: "p", Pick: n}
			l = append(l, []api.Version{{From: int64(n), Query: wild}}, []api.Version{{Query: q}, {From: int64(n), Query: wild}}, []api.Version{{From: int64(n), Query: q}})
		}
	}
	return l
}

var wildNames = []string{"", "p", "q", "\xff", "\x00", "P", "seq", "p q", strings.Repeat("p", 16), strings.Repeat("p", 17), strings.Repeat("p", 999)}

// P1, P2: calls end, and none panics, at all arguments; what they answer is what the document's words say.
func TestAllArguments(t *testing.T) {
	count := map[bool]int{}
	versions := wildVersions(t)
	for i, v := range versions {
		for _, name := range wildNames {
			x := api.Entry{Name: name, Versions: v}
			y := api.Entry{Name: "q", Versions: versions[i*7%len(versions)]}
			for _, l := range [][]api.Entry{{x}, {x, x}, {x, y}, {y, x}, {x, reader("r", "p", "q")}, {reader("a", "p"), x}, slices.Repeat([]api.Entry{x}, 8), slices.Repeat([]api.Entry{x}, 9)} {
				count[graph.Right(l)]++
				if e := held(t, l); (e == api.ErrArg) == graph.Right(l) {
					t.Errorf("%s: %v", shown(l), e)
				}
			}
			if t.Failed() {
				t.FailNow()
			}
		}
	}
	if min(count[true], count[false]) < 100 {
		t.Error("too few", count)
	}
}

// P1: no entries, nil rows, names that are empty, places that are the least and the greatest.
func TestNothing(t *testing.T) {
	for _, l := range [][]api.Entry{nil, {}} {
		deep, e := graph.Depths(l)
		if !graph.Right(l) || e != api.OK || len(deep)+len(graph.Order(l)) > 0 {
			t.Error(deep, e)
		}
		for _, at := range append(places(l), 0) {
			if got := append(graph.Reads(l, at), graph.Readers(l, at)...); len(got) > 0 {
				t.Error(at, got)
			}
		}
	}
	empty := reader("p")
	empty.Versions[0].Query.Items[0].Names = []string{""}
	for i, l := range [][]api.Entry{{{}}, {{Versions: reader("p").Versions}}, {{Name: "p"}}, {{Name: "p", Versions: []api.Version{}}}, {{Name: "p", Versions: []api.Version{{}}}}, {empty}, {reader("", "")}, {{}, {}}, {reader("p"), {}}} {
		if deep, e := graph.Depths(l); graph.Right(l) || e != api.ErrArg || len(deep)+len(graph.Order(l)) > 0 {
			t.Error(i, deep, e)
		}
		for _, at := range places(l) {
			if got := append(graph.Reads(l, at), graph.Readers(l, at)...); len(got) > 0 {
				t.Error(i, at, got)
			}
		}
	}
	l := reading("p:p q:p")
	for _, at := range []int{math.MinInt, math.MinInt + 1, math.MinInt32, math.MaxInt32, math.MaxInt - 1, math.MaxInt} {
		if got := append(graph.Reads(l, at), graph.Readers(l, at)...); len(got) > 0 {
			t.Error(at, got)
		}
	}
}

// P1: whatever there is much of: entries, versions, items, names, bytes of a name; and expressions that are too deep, or below themselves.
func TestMuch(t *testing.T) {
	const many = 1 << 20
	one := api.Expr{Kind: api.ExVal, Val: api.Val{Kind: api.Int}}
	ring := api.Expr{Kind: api.ExAdd, Kids: []api.Expr{one, one}}
	ring.Kids[0] = ring
	deep := one
	for range 300 {
		deep = api.Expr{Kind: api.ExSub, Kids: []api.Expr{deep, deep}}
	}
	changes := []func(x *api.Entry){
		func(x *api.Entry) { x.Name = strings.Repeat("q", many) },
		func(x *api.Entry) { x.Versions = slices.Repeat(x.Versions, many) },
		func(x *api.Entry) {
			x.Versions[0].Query.Items = slices.Repeat(x.Versions[0].Query.Items, many)
		},
		func(x *api.Entry) {
			x.Versions[0].Query.Items[0].Names = slices.Repeat([]string{"p"}, many)
		},
		func(x *api.Entry) {
			x.Versions[0].Query.Items[0].Names = []string{strings.Repeat("p", many)}
		},
		func(x *api.Entry) {
			x.Versions[0].Query.Preds = []api.Pred{{Cmp: api.Eq, L: ring, R: one}}
		},
		func(x *api.Entry) {
			x.Versions[0].Query.Preds = []api.Pred{{Cmp: api.Eq, L: one, R: deep}}
		},
	}
	wrong := [][]api.Entry{slices.Repeat(named("p"), many), make([]api.Entry, many)}
	for _, change := range changes {
		l := reading("p q:p r:q")
		change(&l[1])
		wrong = append(wrong, l)
	}
	for i, l := range wrong {
		got, e := graph.Depths(l)
		if graph.Right(l) || e != api.ErrArg || len(got)+len(graph.Order(l))+len(graph.Reads(l, 1))+len(graph.Readers(l, 0)) > 0 {
			t.Error(i, got, e)
		}
	}
	// As much as may be: eight entries of eight versions of six items of three names.
	full := named("p", "q", "r", "s", "t", "u", "v", "w")
	for i := range full {
		var v api.Version
		for n := range api.MaxItems {
			v.Query.Items = append(v.Query.Items, item(n, "p", "q", letters[n:n+1]+"2"))
		}
		v.Query.Pick = api.Any
		full[i].Versions = nil
		for range api.MaxVersions {
			full[i].Versions = append(full[i].Versions, v)
			v.From++
		}
	}
	if e := held(t, full); e != api.ErrRing || told(graph.Readers(full, 1)) != "0 1 2 3 4 5 6 7" || told(graph.Reads(full, 7)) != "0 1" {
		t.Error(e, shown(full))
	}
}

// roomier is a list with spare room, that holds something.
func roomier[T any](l []T, spare T) []T { return append(slices.Clone(l), spare, spare)[:len(l)] }

// roomy are entries with spare room in each list: what is there would change the answers, if it were looked at.
func roomy(t *testing.T) []api.Entry {
	l := entries(t, "p = 0 a or b x where x.v + (1 + 2) = 3 | 3 drop; q = 1 a x | 2 b x then not c or p n; r = 0 q or a x+ then c y? where 7 < x.v - 1 | 4 a x; s = 0 b x; t = 0 s x then p y")
	for i := range l {
		for j := range l[i].Versions {
			q := &l[i].Versions[j].Query
			for k := range q.Items {
				q.Items[k].Names = roomier(q.Items[k].Names, "r")
			}
			for k := range q.Preds {
				q.Preds[k].L.Kids = roomier(q.Preds[k].L.Kids, api.Expr{Kind: 9})
			}
			q.Items = roomier(q.Items, item(9, "r"))
			q.Preds = roomier(q.Preds, api.Pred{Cmp: 9})
		}
		l[i].Versions = roomier(l[i].Versions, api.Version{From: 99, Query: parsed(t, "r x")})
	}
	return roomier(l, reader("u", "r"))
}

// rooms are all lists of entries, with their spare room.
func rooms(l []api.Entry) []any {
	out := []any{l[:cap(l)]}
	for _, x := range l {
		out = append(out, x.Versions[:cap(x.Versions)])
		for _, v := range x.Versions {
			q := v.Query
			out = append(out, q.Items[:cap(q.Items)], q.Preds[:cap(q.Preds)])
			for _, it := range q.Items {
				out = append(out, it.Names[:cap(it.Names)])
			}
			for _, p := range q.Preds {
				out = append(out, p.L.Kids[:cap(p.L.Kids)])
			}
		}
	}
	return out
}

// lists are all calls that answer lists.
func lists(l []api.Entry) []func() []int {
	out := []func() []int{
		func() []int { deep, _ := graph.Depths(l); return deep },
		func() []int { return graph.Order(l) },
	}
	for at := range l {
		out = append(out, func() []int { return graph.Reads(l, at) }, func() []int { return graph.Readers(l, at) })
	}
	return out
}

// answers are all that the calls answer.
func answers(l []api.Entry) string {
	_, e := graph.Depths(l)
	out := []any{graph.Right(l), e}
	for _, call := range lists(l) {
		out = append(out, told(call())+";")
	}
	return fmt.Sprint(out...)
}

// P3: what is handed in is not changed, nor its spare room; and not kept.
func TestHandedIn(t *testing.T) {
	l, want := roomy(t), roomy(t)
	first := answers(l)
	if got := answers(want); got != first || toldDepths(l) != "1 2 3 1 2" {
		t.Errorf("%s is not %s", got, first)
	}
	if !reflect.DeepEqual(rooms(l), rooms(want)) {
		t.Errorf("%v is not %v", rooms(l), rooms(want))
	}
	// What is written to it behind the call is seen, and nothing of what it was.
	for i, c := range []struct {
		change func()
		want   string
	}{
		{func() { l[3].Versions[0].Query.Items[0].Names[0] = "q" }, "too deep"},
		{func() { l[4].Versions[0].Query.Items = l[4].Versions[0].Query.Items[1:] }, "1 2 3 3 2"},
		{func() { l[3].Name = "s1" }, "1 2 3 3 2"},
		{func() { l[0].Versions[0].Query.Items[0].Names[1] = "s1" }, "ring"},
		{func() { l[0].Versions[0].Query.Pick = 0 }, "wrong"},
		{func() { l[0].Versions = l[3].Versions[:1] }, "ring"},
		{func() { l[1].Versions = l[1].Versions[:1] }, "2 1 2 2 3"},
		{func() { l = l[:4] }, "2 1 2 2"},
	} {
		c.change()
		if got := toldDepths(l); got != c.want {
			t.Errorf("%d: %s", i, got)
		}
		held(t, l)
	}
	if got := answers(want); got != first {
		t.Errorf("%s is not %s", got, first)
	}
}

// P3: lists that come out are new memory, their spare room too: they may be written to, and grow, without being seen in another one, or in what was handed in.
func TestListsComeOut(t *testing.T) {
	l, want := roomy(t), roomy(t)
	first := answers(l)
	for i, call := range lists(l) {
		got, again := call(), call()
		_ = append(got, -7, -7)
		other := told(again)
		for n := range got[:cap(got)] {
			got[:cap(got)][n] = -9
		}
		if told(again) != other || answers(l) != first {
			t.Errorf("%d: %v", i, again)
		}
	}
	if !reflect.DeepEqual(rooms(l), rooms(want)) {
		t.Errorf("%v is not %v", rooms(l), rooms(want))
	}
}

// P3: the same answers come, whatever was asked in between; calls that are made at once, of the same arguments too, see nothing of one another.
func TestSameAgain(t *testing.T) {
	l := roomy(t)
	want := answers(l)
	var calls sync.WaitGroup
	for n := range 8 {
		calls.Go(func() {
			r := dice(n)
			for range 100 {
				held(t, r.wrong(r.entries(4)))
				if got := answers(l); got != want {
					t.Errorf("%s is not %s", got, want)
				}
			}
		})
	}
	calls.Wait()
}
