package run_test

import (
	"strings"
	"testing"

	"augury/api"
	"augury/run"
	"augury/tree"
)

// P13.1: M1, Names of one item, of more than one, of a Not, of all that an item has, and of none.
func TestNames(t *testing.T) {
	const text = "seq a or b x then not c or d n then a y+ then not bb m then e z? where x.f = y.f within 5 by g"
	q := parsed(t, text)
	for name, want := range map[string]bool{
		"a": true, "b": true, "c": true, "d": true, "bb": true, "e": true,
		"x": false, "n": false, "y": false, "m": false, "z": false, "f": false, "g": false, "seq": false, "any": false,
		"": false, "A": false, "aa": false, "bbb": false, "ab": false, "a ": false, " a": false, "a\x00": false, "\xff": false, strings.Repeat("a", 1000): false,
	} {
		if got := run.Names(q, name); got != want {
			t.Errorf("%q: %v", name, got)
		}
	}
}

// P13.1: M1, Names asks the items of a query that is not right likewise.
func TestNamesAnyhow(t *testing.T) {
	q := api.Query{Items: []api.Item{{}, {Names: []string{}}, {Not: true, Names: []string{"seq", "\xff", "seq", "x9", "A"}}, {Mode: 9, Names: []string{"last"}}}, Preds: make([]api.Pred, 99)}
	if tree.Right(q) {
		t.Fatal("right")
	}
	for name, want := range map[string]bool{"seq": true, "\xff": true, "x9": true, "A": true, "last": true, "": false, "a": false, "las": false} {
		if got := run.Names(q, name); got != want {
			t.Errorf("%q: %v", name, got)
		}
	}
	q.Items[1].Names = []string{"", ""}
	if !run.Names(q, "") || run.Names(api.Query{}, "") || run.Names(api.Query{}, "a") {
		t.Error("empty names")
	}
}

// P13.1: M1, First, of the first row's first event alone.
func TestFirst(t *testing.T) {
	for s, want := range map[string]int64{
		"0:": 0, "0:/": 0, "0:/a7": 0, "0:/a7/a8 a9": 0,
		"0:a7": 7, "0:a7 a3": 7, "0:a3 a7": 3, "0:a7/a1": 7, "1:a7//a1": 7, "0:a0/a4": 0, "0:a0 a4": 0,
		"-1:a7": 7, "99:b7.1/": 7, "0:a-1": -1, "0:a-9/a5": -9, "0:a1099511627776": most, "0:a1099511627777 a0": most + 1,
		"0:a9223372036854775807": 1<<63 - 1, "0:a-9223372036854775808 a1": -1 << 63,
	} {
		if got := run.First(runs(s)[0]); got != want {
			t.Errorf("%s: %d", s, got)
		}
	}
	for i, r := range []api.Run{{}, {At: -1}, {At: 3}, {Bound: [][]api.Event{}}, {Bound: [][]api.Event{nil}}, {Bound: [][]api.Event{{}}}, {Bound: [][]api.Event{{}, {one("a4")}}}, {Bound: make([][]api.Event, 9)}} {
		if got := run.First(r); got != 0 {
			t.Errorf("%d: %d", i, got)
		}
	}
}

// waiting are queries' items, and runs of them that wait, and that do not.
var waiting = map[string]struct{ yes, no string }{
	// Nothing behind: there is nothing to wait for.
	"a x":  {"", "0:a1"},
	"a x+": {"", "0:a1, 0:a1 a2"},
	// A Not behind; some; an Opt between, and behind.
	"a x then not c n":                        {"0:a1/, 0:a1 a2/, 0:a1/c2", "1:a1/"},
	"a x+ then not c n":                       {"0:a1/, 0:a1 a2/", "1:a1/c2"},
	"a x then not c n then not d m":           {"0:a1//", "1:a1//, 2:a1//"},
	"a x then b y? then not c n":              {"0:a1//, 1:a1/b2/, 1:a1//, 0:a1/b2/c3", "2:a1/b2/"},
	"a x then not c n then b y?":              {"0:a1//", "2:a1//b2, 1:a1//"},
	"a x+ then not c n then b y?":             {"0:a1//, 0:a1 a2//", "2:a1//b2"},
	"a x then b y? then not c n then d z?":    {"0:a1///, 1:a1/b2//", "3:a1/b2//d3, 3:a1///d3, 2:a1///"},
	"a x then not c n then b y? then not d m": {"0:a1///, 2:a1//b2/", "1:a1///, 3:a1///"},
	"a x then b y? then c z? then not d n":    {"0:a1///, 1:a1/b2//, 2:a1/b2/c3/, 2:a1//c3/", "3:a1///"},
	"a x then b y then not c n":               {"1:a1/b2/, 1:a1//", "0:a1//, 0:a1/b2/"},
	"a x then b y+ then not c n":              {"1:a1/b2/, 1:a1/b2 b3/", "0:a1//"},
	// An Opt behind, and no Not.
	"a x then b y?":            {"", "0:a1/, 1:a1/b2"},
	"a x then b y? then c z?":  {"", "0:a1//, 1:a1/b2/, 2:a1//c2"},
	"a x+ then b y? then c z?": {"", "0:a1//, 1:a1/b2/, 2:a1//c2"},
	// More behind that must come: no end yet.
	"a x then b y":                                       {"", "0:a1/, 1:a1/b2"},
	"a x then not c n then b y":                          {"", "0:a1//, 2:a1//b2"},
	"a x then not c n then b y+":                         {"", "0:a1//, 2:a1//b2, 2:a1//b2 b3"},
	"a x then b y? then not c n then d z":                {"", "0:a1///, 1:a1/b2//, 3:a1///d3"},
	"a x then not c n then b y? then not d m then e z":   {"", "0:a1////, 2:a1//b2//, 4:a1////e3"},
	"a x then not c n then b y then not d m then e z?":   {"2:a1//b2//", "0:a1////, 4:a1//b2//e3"},
	"a x+ then b y? then not c n then d z+ then not e m": {"3:a1///d3/, 3:a1///d3 d4/", "0:a1////, 1:a1/b2///, 4:a1///d3/"},
	"a x then b y? then not c n then d z? then not e m":  {"0:a1////, 1:a1/b2///, 3:a1///d4/", "2:a1////, 4:a1////"},
	"a x then not c n then b y? then d z? then not e m":  {"0:a1////, 2:a1//b2//, 3:a1///d4/", "1:a1////"},
	"a x then b y+ then c z? then not d n then not e m":  {"1:a1/b2///, 2:a1/b2/c3//", "0:a1////"},
	"a or b x then not a n then b or c y? then not b m":  {"0:b1///, 2:a1//c4/", "1:a1///, 3:a1///"},
}

// P13.1: M1, Waits, whatever is picked.
func TestWaits(t *testing.T) {
	for items, c := range waiting {
		for _, pick := range []string{"any", "next", "strict"} {
			q := parsed(t, "seq "+items+" within 5 pick "+pick)
			for _, r := range runs(c.yes) {
				if !run.Waits(q, r) {
					t.Errorf("%s: not %s", items, toldRuns([]api.Run{r}))
				}
			}
			for _, r := range runs(c.no) {
				if run.Waits(q, r) {
					t.Errorf("%s: %s", items, toldRuns([]api.Run{r}))
				}
			}
		}
	}
}

// wrongRuns are not right in a query of four items, the second a Not: all would wait else.
const wrongRuns = "-1:a1///, -2:a1///, 1:a1///, 3:a1///, 4:a1///, 5:a1///, 99:a1///, 0:a1//, 0:a1, 0:a1////, 0:, 0:///, 0:/a1//, 2:///c1, 0:a-1///, 0:a-1 a1///, 0:a1099511627777///, 2:a1099511627777//c2/, 0:a9223372036854775807///, 0:a-9223372036854775808///, 9223372036854775807:a1///, -9223372036854775808:a1///"

// rightRuns are right, of the least and the most that may be, whatever else there is; all wait.
const rightRuns = "0:a0///, 0:a1099511627776///, 2:a1///, 2:a1//c1/, 0:a0 a-1///, 0:a1 a1099511627777/b-5/c-6/d-7, 0:e1///"

func wrongAndRight(t *testing.T) (api.Query, []api.Run, []api.Run) {
	wrong := append(runs(wrongRuns), api.Run{}, api.Run{At: 2}, api.Run{Bound: [][]api.Event{}}, api.Run{Bound: make([][]api.Event, 4)}, api.Run{Bound: make([][]api.Event, 5)}, api.Run{Bound: [][]api.Event{{}, {}, {}, {}}})
	return parsed(t, "seq a x then not b n then c y? then not d m within 3"), wrong, runs(rightRuns)
}

// P13.1: M1, what is not right does not wait: runs, and queries.
func TestWaitsOfWrong(t *testing.T) {
	q, wrong, right := wrongAndRight(t)
	for _, r := range wrong {
		if run.Waits(q, r) {
			t.Errorf("%s", toldRuns([]api.Run{r}))
		}
	}
	for _, r := range right {
		if !run.Waits(q, r) {
			t.Errorf("not %s", toldRuns([]api.Run{r}))
		}
		for i, w := range wrongQueries(q) {
			if run.Waits(w, r) {
				t.Errorf("%d: %s", i, toldRuns([]api.Run{r}))
			}
		}
	}
	// First and Names are asked of these as of others.
	if got := run.First(runs("-1:a-5")[0]); got != -5 {
		t.Error(got)
	}
}

// wrongQueries are such as q is, with one thing that may not be.
func wrongQueries(q api.Query) []api.Query {
	l := []api.Query{{}}
	for _, change := range []func(q *api.Query){
		func(q *api.Query) { q.Items = append(q.Items, q.Items...) },
		func(q *api.Query) { q.Items[0].Not = true },
		func(q *api.Query) { q.Items[0].Mode = api.Opt },
		func(q *api.Query) { q.Items[0].Mode = 0 },
		func(q *api.Query) { q.Items[len(q.Items)-1].Mode = 4 },
		func(q *api.Query) { q.Items[0].Names = nil },
		func(q *api.Query) { q.Items[0].Names = []string{"a", "a"} },
		func(q *api.Query) { q.Items[0].Names = []string{"a", ""} },
		func(q *api.Query) { q.Items[0].Var = "" },
		func(q *api.Query) { q.Items[0].Var = q.Items[1].Var },
		func(q *api.Query) { q.Preds = []api.Pred{{}} },
		func(q *api.Query) { q.Within = -1 },
		func(q *api.Query) { q.Within = most + 1 },
		func(q *api.Query) { q.By = "A" },
		func(q *api.Query) { q.Pick = 0 },
		func(q *api.Query) { q.Pick = 4 },
	} {
		own := q
		own.Items = nil
		for _, it := range q.Items {
			it.Names = append([]string(nil), it.Names...)
			own.Items = append(own.Items, it)
		}
		change(&own)
		l = append(l, own)
	}
	return l
}

// P13.1: M1, of thrown queries and runs, against the sketch.
func TestThrownWaits(t *testing.T) {
	r := dice(131)
	many := map[bool]int{}
	for range 20000 {
		q := r.query(6)
		own := r.run(q)
		got := run.Waits(q, own)
		if got != sketchWaits(q, own) {
			t.Fatalf("%s: %v of %s", tree.Print(q), got, toldRuns([]api.Run{own}))
		}
		many[got]++
	}
	if min(many[true], many[false]) < 2000 {
		t.Error("too few", many)
	}
}
