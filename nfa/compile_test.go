package nfa_test

import (
	"reflect"
	"testing"

	"augury/api"
	"augury/nfa"
	"augury/tree"
)

// compiled are queries' items, and their states as told tells them: that ahead of all, then that behind each.
var compiled = map[string]string{
	// The document's example.
	"a x then not b n then c y": "0 | 2 !1 | 2 | .",
	// One item.
	"a x":                           "0 | .",
	"a x+":                          "0 | 0 .",
	"a or b or c x":                 "0 | .",
	"a x then b y":                  "0 | 1 | .",
	"a x+ then b y":                 "0 | 0 1 | .",
	"a x then b y+":                 "0 | 1 | 1 .",
	"a x+ then b y+":                "0 | 0 1 | 1 .",
	"a x then b y?":                 "0 | 1 . | .",
	"a x+ then b y?":                "0 | 0 1 . | .",
	"a x then not b n":              "0 | !1 . | .",
	"a x+ then not b n":             "0 | 0 !1 . | .",
	"a x then a y then a z":         "0 | 1 | 2 | .",
	"a x+ then a y+ then a z+":      "0 | 0 1 | 1 2 | 2 .",
	"a x then b y? then c z":        "0 | 1 2 | 2 | .",
	"a x then b y? then c z+":       "0 | 1 2 | 2 | 2 .",
	"a x+ then b y? then c z":       "0 | 0 1 2 | 2 | .",
	"a x then not b n then c z+":    "0 | 2 !1 | 2 | 2 .",
	"a x+ then not b n then c z+":   "0 | 0 2 !1 | 2 | 2 .",
	"a x then not b n then c z?":    "0 | 2 !1 . | 2 . | .",
	"a x then b y? then not c n":    "0 | 1 !2 . | !2 . | .",
	"a x then b y? then c z?":       "0 | 1 2 . | 2 . | .",
	"a x then not b n then not c m": "0 | !1 !2 . | !2 . | .",
	"a x then b y+ then not c n":    "0 | 1 | 1 !2 . | .",
	// Some Opts, some Nots, directly behind one another, and behind them one that must come.
	"a x then b y? then c z? then d w? then e v":          "0 | 1 2 3 4 | 2 3 4 | 3 4 | 4 | .",
	"a x then not b k then not c l then not d m then e v": "0 | 4 !1 !2 !3 | 4 !2 !3 | 4 !3 | 4 | .",
	"a x then not b k then c y? then not d l then e z?":   "0 | 2 4 !1 !3 . | 2 4 !3 . | 4 !3 . | 4 . | .",
	"a x then b y? then not c k then d z? then not e l":   "0 | 1 3 !2 !4 . | 3 !2 !4 . | 3 !4 . | !4 . | .",
	// Guards ahead of, between, and behind what is in Next.
	"a x then not b k then c y? then not d l then e z? then not f m":  "0 | 2 4 !1 !3 !5 . | 2 4 !3 !5 . | 4 !3 !5 . | 4 !5 . | !5 . | .",
	"a x+ then not b k then c y? then not d l then e z? then not f m": "0 | 0 2 4 !1 !3 !5 . | 2 4 !3 !5 . | 4 !3 !5 . | 4 !5 . | !5 . | .",
	// Next is ended by a One, and by a Plus: what stands behind is in neither.
	"a x then b y then not c k then d z":         "0 | 1 | 3 !2 | 3 | .",
	"a x then b y then c z? then not d k":        "0 | 1 | 2 !3 . | !3 . | .",
	"a x then b y+ then c z? then not d k":       "0 | 1 | 1 2 !3 . | !3 . | .",
	"a x then b y? then c z then d w? then e v":  "0 | 1 2 | 2 | 3 4 | 4 | .",
	"a x then b y? then c z+ then d w? then e v": "0 | 1 2 | 2 | 2 3 4 | 4 | .",
	"a x then not b k then c y then not d l":     "0 | 2 !1 | 2 | !3 . | .",
	"a x then not b k then c y+ then not d l":    "0 | 2 !1 | 2 | 2 !3 . | .",
	// As many as may be: alike, at the end, and mixed.
	"a u then b v then c w then d x then e y then f z":                     "0 | 1 | 2 | 3 | 4 | 5 | .",
	"a u+ then b v+ then c w+ then d x+ then e y+ then f z+":               "0 | 0 1 | 1 2 | 2 3 | 3 4 | 4 5 | 5 .",
	"a u then b v? then c w? then d x? then e y? then f z?":                "0 | 1 2 3 4 5 . | 2 3 4 5 . | 3 4 5 . | 4 5 . | 5 . | .",
	"a u then not b i then not c j then not d k then not e l then not f m": "0 | !1 !2 !3 !4 !5 . | !2 !3 !4 !5 . | !3 !4 !5 . | !4 !5 . | !5 . | .",
	"a x+ then not b n then c y? then d z+ then not e m then f w?":         "0 | 0 2 3 !1 | 2 3 | 3 | 3 5 !4 . | 5 . | .",
	"a u then b v+ then not c k then d w? then not e l then f z":           "0 | 1 | 1 3 5 !2 !4 | 3 5 !4 | 5 !4 | 5 | .",
	"a x then b y? then not c k then d z+ then e w? then not f l":          "0 | 1 3 !2 | 3 !2 | 3 | 3 4 !5 . | !5 . | .",
}

// P12.1: L1, of each kind of item, and what stands behind it.
func TestStates(t *testing.T) {
	for items, want := range compiled {
		if got := told(nfa.Compile(pattern(t, items))); got != want {
			t.Errorf("%s: %s is not %s", items, got, want)
		}
	}
}

// P12.1: L1, of all items' kinds that a right query may have, against the sketch.
func TestAllStates(t *testing.T) {
	for many := 1; many <= api.MaxItems; many++ {
		for _, shape := range shapes(many) {
			q := shaped(shape, each("abcdef")...)
			if got, want := told(nfa.Compile(q)), told(sketchStates(q)); got != want {
				t.Errorf("%s: %s is not %s", shape, got, want)
			}
		}
	}
}

// P12.1: L1, names, and all else that a right query has, change nothing.
func TestItemsAlone(t *testing.T) {
	const items = "a x+ then not b n then c y? then a or b or c z+"
	want := told(nfa.Compile(pattern(t, items)))
	for _, text := range []string{
		"seq " + items + " within 0", "seq " + items + " within 1099511627776", "seq " + items + " within 5 pick next", "seq " + items + " within 5 pick strict", "seq " + items + " within 5 by x",
		"seq " + items + " where x.v = 1 and n.v = x.v and 1 = 2 within 5", "seq c k+ then not c l then a m? then b n+ within 5", "seq a x+ then not a y then a z? then a w+ within 5",
	} {
		if got := told(nfa.Compile(parsed(t, text))); got != want {
			t.Errorf("%s: %s is not %s", text, got, want)
		}
	}
}

// wrongs are queries that are not right, each by one thing alone.
func wrongs() []api.Query {
	var l []api.Query
	but := func(change func(q *api.Query)) {
		q := shaped("1+?!1", each("abcde")...)
		change(&q)
		l = append(l, q)
	}
	but(func(q *api.Query) { q.Items = nil })
	but(func(q *api.Query) { q.Items = q.Items[:0] })
	but(func(q *api.Query) { q.Items = q.Items[2:] })
	but(func(q *api.Query) { q.Items = q.Items[3:] })
	but(func(q *api.Query) { *q = shaped("1111111", each("abcdefg")...) })
	but(func(q *api.Query) { q.Items[0].Not = true })
	but(func(q *api.Query) { q.Items[0].Mode = api.Opt })
	but(func(q *api.Query) { q.Items[3].Mode = api.Plus })
	but(func(q *api.Query) { q.Items[3].Mode = api.Opt })
	but(func(q *api.Query) { q.Items[4].Var = q.Items[3].Var })
	for at := range 5 {
		but(func(q *api.Query) { q.Items[at].Mode = 0 })
		but(func(q *api.Query) { q.Items[at].Mode = 4 })
		but(func(q *api.Query) { q.Items[at].Names = nil })
		but(func(q *api.Query) { q.Items[at].Names = []string{""} })
		but(func(q *api.Query) { q.Items[at].Names = []string{"a", "a"} })
		but(func(q *api.Query) { q.Items[at].Names = []string{"a", "b", "c", "d"} })
		but(func(q *api.Query) { q.Items[at].Names = []string{"seq"} })
		but(func(q *api.Query) { q.Items[at].Var = "" })
		but(func(q *api.Query) { q.Items[at].Var = "X" })
	}
	but(func(q *api.Query) { q.Preds = make([]api.Pred, 1) })
	but(func(q *api.Query) { q.Within = -1 })
	but(func(q *api.Query) { q.Within = api.MaxNum + 1 })
	but(func(q *api.Query) { q.By = "seq" })
	but(func(q *api.Query) { q.Pick = 0 })
	but(func(q *api.Query) { q.Pick = 4 })
	return append(l, api.Query{})
}

// P12.1, P2: L1 and L2, of a query that is not right there are no states, and nothing is accepted.
func TestNotRight(t *testing.T) {
	if q := shaped("1+?!1", each("abcde")...); !tree.Right(q) || len(nfa.Compile(q)) != 6 || !nfa.Accepts(q, []string{"a", "b", "e"}) {
		t.Error("what is changed is not right")
	}
	for i, q := range wrongs() {
		if tree.Right(q) {
			t.Fatalf("%d is right", i)
		}
		if l := nfa.Compile(q); len(l) > 0 {
			t.Errorf("%d: %s", i, told(l))
		}
		for _, names := range rows(3, "a", "b", "c", "e", "") {
			if nfa.Accepts(q, names) {
				t.Errorf("%d: %q", i, names)
			}
		}
	}
}

// P12.1: L1, a query has one state more than items, and that ahead of all has the first item alone.
func TestFirstState(t *testing.T) {
	r := dice(121)
	for range 2000 {
		q := r.query()
		l := nfa.Compile(q)
		if len(l) != len(q.Items)+1 || !reflect.DeepEqual(l[0].Next, []int{0}) || len(l[0].Guards) > 0 || l[0].Final {
			t.Fatalf("%s: %s", tree.Print(q), told(l))
		}
	}
}
