package timeline_test

import (
	"math"
	"slices"
	"strconv"
	"strings"
	"testing"

	"augury/api"
	"augury/timeline"
	"augury/tree"
)

// P15.1: O1, versions that are right, and such that are not for their times, Drops, and how many they are.
func TestRight(t *testing.T) {
	for text, want := range map[string]bool{
		"":  true,
		"0": true, "1": true, "1099511627776": true,
		"-0": false, "-5": false, "-1099511627776": false,
		"1099511627777": false, "9223372036854775807": false,
		"0 5": true, "0 1": true, "0 1099511627776": true, "1099511627775 1099511627776": true,
		"5 5": false, "0 0": false, "1099511627776 1099511627776": false, "5 4": false, "1 0": false, "0 5 5": false, "0 5 4": false, "0 5 0": false, "3 5 2 9": false,
		"0 1099511627777": false,
		"0 -5":            true, "0 -1": true, "0 -1099511627776": true, "0 -0": false, "0 -1099511627777": false, "5 -4": false, "5 -5": false, "0 -5 5": false,
		"0 -5 6": true, "0 -5 6 -7": true, "0 3 -5 6 8 -9": true,
		"-0 5": false, "-0 -5": false, "0 -5 -6": false, "0 -5 -6 7": false, "0 1 -5 -6": false, "0 -5 6 -7 -8": false, "0 -5 6 7 -8 -9": false,
		"0 1 2 3 4 5 6": true, "0 1 2 3 4 5 6 7": true, "0 1 2 3 4 5 6 -7": true, "0 -1 2 -3 4 -5 6 -7": true,
		"0 1 2 3 4 5 6 7 8": false, "0 1 2 3 4 5 6 7 -8": false, "0 -1 2 -3 4 -5 6 -7 8": false, "0 1 2 3 4 5 6 7 8 9": false,
	} {
		l := begins(t, text)
		if got := timeline.Right(l); got != want || sketchRight(l) != want {
			t.Errorf("%q: %v", text, got)
		}
	}
	for _, from := range []int64{math.MinInt64, -most, -1, most + 1, math.MaxInt64} {
		for _, ahead := range []string{"", "0", "0 -5"} {
			l := begins(t, ahead)
			if timeline.Right(append(l, api.Version{From: from, Query: parsed(t, "seq a x within 5")})) || timeline.Right(append(l, drop(from))) {
				t.Errorf("%q, then %d", ahead, from)
			}
		}
	}
	if !timeline.Right([]api.Version{}) || timeline.Right(make([]api.Version, 1)) || timeline.Right(make([]api.Version, 8)) || timeline.Right(make([]api.Version, 1<<20)) {
		t.Error("zero ones")
	}
}

// notZero are queries that have one thing, and the zero one.
func notZero(t *testing.T) []api.Query {
	return []api.Query{{Items: []api.Item{{}}}, {Preds: []api.Pred{{}}}, {Within: 1}, {Within: -1}, {By: "a"}, {By: "\x00"}, {Pick: 1}, {Pick: -1}, parsed(t, "seq a x within 5"), parsed(t, "seq a x within 0")}
}

// notRight are queries that are none, each for one thing.
func notRight(t *testing.T) []api.Query {
	l := append(notZero(t)[:8], api.Query{})
	for _, change := range []func(q *api.Query){
		func(q *api.Query) { q.Items = nil },
		func(q *api.Query) { q.Items = slices.Repeat(q.Items, 4) },
		func(q *api.Query) { q.Items[0].Not = true },
		func(q *api.Query) { q.Items[0].Mode = api.Opt },
		func(q *api.Query) { q.Items[1].Mode = 4 },
		func(q *api.Query) { q.Items[1].Names = nil },
		func(q *api.Query) { q.Items[1].Names = []string{"a", ""} },
		func(q *api.Query) { q.Items[1].Var = q.Items[0].Var },
		func(q *api.Query) { q.Preds = []api.Pred{{}} },
		func(q *api.Query) { q.Within = -1 },
		func(q *api.Query) { q.Within = most + 1 },
		func(q *api.Query) { q.By = "seq" },
		func(q *api.Query) { q.Pick = 0 },
		func(q *api.Query) { q.Pick = 4 },
	} {
		q := parsed(t, "seq a x then b y within 5")
		change(&q)
		l = append(l, q)
	}
	return l
}

// P15.1: O1, the query of a version must be right, that of a Drop a zero one.
func TestRightByQuery(t *testing.T) {
	for _, text := range []string{"a x within 0", "a x within 1099511627776 by id pick strict", "a or b x+ then not c n then b y? where x.v + 1 > count(x) and 'a' != y.v within 3"} {
		if l := versions(t, "0 "+text); !timeline.Right(l) {
			t.Error(text)
		}
	}
	for i, q := range notRight(t) {
		v := api.Version{From: 7, Query: q}
		if tree.Right(q) || timeline.Right([]api.Version{v}) || timeline.Right(append(begins(t, "0"), v)) || timeline.Right(append([]api.Version{v}, begins(t, "9")...)) || timeline.Right(append(begins(t, "0 -5"), v)) {
			t.Error(i)
		}
		if e, l := put(t, begins(t, "0"), v); e != api.ErrArg || len(l) > 0 {
			t.Error(i, e)
		}
	}
	for i, q := range notZero(t) {
		v := api.Version{From: 7, Drop: true, Query: q}
		if timeline.Right(append(begins(t, "0"), v)) || timeline.Right(append(append(begins(t, "0"), v), begins(t, "9")...)) {
			t.Error(i)
		}
		if e, l := put(t, begins(t, "0"), v); e != api.ErrArg || len(l) > 0 {
			t.Error(i, e)
		}
	}
	// Lists without anything in them are as zero as none.
	v := api.Version{From: 7, Drop: true, Query: api.Query{Items: []api.Item{}, Preds: []api.Pred{}}}
	if !timeline.Right(append(begins(t, "0"), v)) {
		t.Error("empty lists")
	}
}

// put puts a version, held against the sketch's.
func put(t *testing.T, l []api.Version, v api.Version) (api.Errno, []api.Version) {
	t.Helper()
	got, e := timeline.Put(l, v)
	if want, wantE := sketchPut(l, v); e != wantE || len(got) != len(want) || !alike(got, want) {
		t.Errorf("%v and %v: %v: %v", l, v, e, got)
	}
	return e, got
}

// P15.1: O1, one more version.
func TestPut(t *testing.T) {
	const seven, eight, nine = "0 2 4 6 8 10 12", "0 2 4 6 8 10 12 14", "0 2 4 6 8 10 12 14 16"
	for i, c := range []struct {
		l, v string
		e    api.Errno
		want string
	}{
		// Behind all, between two, ahead of all, and at the time of one that is there.
		{"", "0", api.OK, "0"},
		{"", "1099511627776", api.OK, "1099511627776"},
		{"0 5", "9", api.OK, "0 5 9"},
		{"0 5", "6", api.OK, "0 5 6"},
		{"0 5", "1099511627776", api.OK, "0 5 1099511627776"},
		{"0 5", "4", api.OK, "0 4"},
		{"0 5 9 11", "4", api.OK, "0 4"},
		{"0 5 9 11", "10", api.OK, "0 5 9 10"},
		{"0 5", "5", api.OK, "0 5"},
		{"0 5 9", "5", api.OK, "0 5"},
		{"0 5", "0", api.OK, "0"},
		{"3 5", "2", api.OK, "2"},
		{"3 5 -9", "0", api.OK, "0"},
		// Drops, and what is behind them.
		{"0 5", "-9", api.OK, "0 5 -9"},
		{"0 5", "-5", api.OK, "0 -5"},
		{"0 5", "-4", api.OK, "0 -4"},
		{"0 -5", "4", api.OK, "0 4"},
		{"0 -5", "5", api.OK, "0 5"},
		{"0 -5", "6", api.OK, "0 -5 6"},
		{"0 -5", "-4", api.OK, "0 -4"},
		{"0 -5", "-5", api.OK, "0 -5"},
		{"0 -5 9", "-9", api.ErrNone, "0 -5 9"},
		{"0 -5 9", "-10", api.OK, "0 -5 9 -10"},
		{"0 -5 9", "-8", api.ErrNone, "0 -5 9"},
		{"0 -5 9", "-6", api.ErrNone, "0 -5 9"},
		{"0 -5", "-6", api.ErrNone, "0 -5"},
		{"0 -5", "-1099511627776", api.ErrNone, "0 -5"},
		{"0 5", "-0", api.ErrNone, "0 5"},
		{"3 5", "-3", api.ErrNone, "3 5"},
		{"3 5", "-2", api.ErrNone, "3 5"},
		{"3 5", "-0", api.ErrNone, "3 5"},
		{"", "-0", api.ErrNone, ""},
		{"", "-9", api.ErrNone, ""},
		// A ninth one; and such that put so many away that there is room.
		{seven, "13", api.OK, seven + " 13"},
		{seven, "-13", api.OK, seven + " -13"},
		{eight, "15", api.ErrTooMany, eight},
		{eight, "1099511627776", api.ErrTooMany, eight},
		{eight, "-15", api.ErrTooMany, eight},
		{eight, "14", api.OK, eight},
		{eight, "13", api.OK, seven + " 13"},
		{eight, "-13", api.OK, seven + " -13"},
		{eight, "-14", api.OK, seven + " -14"},
		{eight, "5", api.OK, "0 2 4 5"},
		{seven + " -14", "15", api.ErrTooMany, seven + " -14"},
		{seven + " -14", "14", api.OK, eight},
		// Of two errors the first one that the words name.
		{seven + " -14", "-15", api.ErrNone, seven + " -14"},
		{eight, "1099511627777", api.ErrArg, ""},
		{nine, "17", api.ErrArg, ""},
		{nine, "-17", api.ErrArg, ""},
		{nine, "0", api.ErrArg, ""},
		// What is not right.
		{"0 5", "1099511627777", api.ErrArg, ""},
		{"0 5", "-1099511627777", api.ErrArg, ""},
		{"", "1099511627777", api.ErrArg, ""},
		{"5 5", "9", api.ErrArg, ""},
		{"5 4", "0", api.ErrArg, ""},
		{"-5", "9", api.ErrArg, ""},
		{"-5", "0", api.ErrArg, ""},
		{"0 -5 -6", "9", api.ErrArg, ""},
		{"0 -5 -6", "5", api.ErrArg, ""},
		{"0 1099511627777", "5", api.ErrArg, ""},
	} {
		// A query of its own, so that one can see which is left.
		for _, v := range begins(t, c.v) {
			if v.Query.Within > 0 {
				v.Query.Within = 77
			}
			e, l := put(t, begins(t, c.l), v)
			if e != c.e || toldVersions(l) != c.want {
				t.Errorf("%d: %v: %s", i, e, toldVersions(l))
			}
			if e == api.OK && (!timeline.Right(l) || !alike(l[len(l)-1:], []api.Version{v})) {
				t.Errorf("%d: %v", i, l)
			}
		}
	}
	for _, from := range []int64{math.MinInt64, -1, most + 1, math.MaxInt64} {
		q := parsed(t, "seq a x within 5")
		for _, text := range []string{"", "0 5", "0 -5", eight} {
			if e, l := put(t, begins(t, text), api.Version{From: from, Query: q}); e != api.ErrArg || len(l) > 0 {
				t.Error(text, from, e)
			}
			if e, l := put(t, begins(t, text), drop(from)); e != api.ErrArg || len(l) > 0 {
				t.Error(text, from, e)
			}
		}
	}
}

// back takes the last version back, held against the sketch's.
func back(t *testing.T, l []api.Version) (api.Errno, []api.Version) {
	t.Helper()
	got, e := timeline.Back(l)
	if want, wantE := sketchBack(l); e != wantE || len(got) != len(want) || !alike(got, want) {
		t.Errorf("%v: %v: %v", l, e, got)
	}
	return e, got
}

// P15.1: O1, one version less.
func TestBack(t *testing.T) {
	for i, c := range []struct {
		l    string
		e    api.Errno
		want string
	}{
		{"", api.ErrNone, ""},
		{"0", api.ErrNone, "0"},
		{"1099511627776", api.ErrNone, "1099511627776"},
		{"0 5", api.OK, "0"},
		{"0 -5", api.OK, "0"},
		{"0 -5 9", api.OK, "0 -5"},
		{"0 5 9", api.OK, "0 5"},
		{"0 2 4 6 8 10 12 14", api.OK, "0 2 4 6 8 10 12"},
		// What is not right, even if it were without its last one.
		{"-0", api.ErrArg, ""},
		{"1099511627777", api.ErrArg, ""},
		{"5 5", api.ErrArg, ""},
		{"5 4", api.ErrArg, ""},
		{"0 -5 -6", api.ErrArg, ""},
		{"0 1099511627777", api.ErrArg, ""},
		{"-0 5", api.ErrArg, ""},
		{"0 2 4 6 8 10 12 14 16", api.ErrArg, ""},
	} {
		if e, l := back(t, begins(t, c.l)); e != c.e || toldVersions(l) != c.want {
			t.Errorf("%d: %v: %s", i, e, toldVersions(l))
		}
	}
	if e, l := back(t, make([]api.Version, 2)); e != api.ErrArg || len(l) > 0 {
		t.Error(e, l)
	}
}

// toldSpans are spans: `at:from-to`.
func toldSpans(l []api.Span) string {
	var out []string
	for _, s := range l {
		out = append(out, strconv.Itoa(s.At)+":"+strconv.FormatInt(s.From, 10)+"-"+strconv.FormatInt(s.To, 10))
	}
	return strings.Join(out, " ")
}

// P15.1: O2, how long each is in force.
func TestSpans(t *testing.T) {
	for text, want := range map[string]string{
		// The document's example.
		"0 5":           "0:0-5 1:5-1099511627777",
		"":              "",
		"0":             "0:0-1099511627777",
		"7":             "0:7-1099511627777",
		"1099511627776": "0:1099511627776-1099511627777",
		"0 1 2":         "0:0-1 1:1-2 2:2-1099511627777",
		// Drops at the end, between, and both.
		"3 -5":                        "0:3-5",
		"3 -1099511627776":            "0:3-1099511627776",
		"3 -5 6":                      "0:3-5 2:6-1099511627777",
		"3 4 -5 6 7 -9":               "0:3-4 1:4-5 3:6-7 4:7-9",
		"0 -1 2 -3 4 -5 6 -7":         "0:0-1 2:2-3 4:4-5 6:6-7",
		"0 2 4 6 8 10 12 14":          "0:0-2 1:2-4 2:4-6 3:6-8 4:8-10 5:10-12 6:12-14 7:14-1099511627777",
		"0 -1 1099511627776":          "0:0-1 2:1099511627776-1099511627777",
		"1099511627775 1099511627776": "0:1099511627775-1099511627776 1:1099511627776-1099511627777",
		// What is not right.
		"-0": "", "5 5": "", "5 4": "", "-0 5": "", "0 -5 -6": "", "0 1099511627777": "", "0 1 2 3 4 5 6 7 8": "",
	} {
		if got := toldSpans(timeline.Spans(begins(t, text))); got != want || toldSpans(sketchSpans(begins(t, text))) != want {
			t.Errorf("%q: %s", text, got)
		}
	}
	if l := timeline.Spans(make([]api.Version, 1)); len(l) > 0 {
		t.Error(l)
	}
}

// P15.1: O2, which one is in force.
func TestAt(t *testing.T) {
	for text, want := range map[string]string{
		"":                                "0:-1 1099511627776:-1",
		"0":                               "-9223372036854775808:-1 -1:-1 0:0 1:0 1099511627775:0 1099511627776:0 1099511627777:-1 1099511627778:-1 9223372036854775807:-1",
		"5":                               "-1:-1 0:-1 4:-1 5:0 6:0 1099511627776:0 1099511627777:-1",
		"5 9":                             "4:-1 5:0 8:0 9:1 10:1 1099511627776:1 1099511627777:-1",
		"5 6 7":                           "4:-1 5:0 6:1 7:2 8:2",
		"1099511627776":                   "1099511627775:-1 1099511627776:0 1099511627777:-1 9223372036854775807:-1",
		"0 1099511627776":                 "-1:-1 0:0 1099511627775:0 1099511627776:1 1099511627777:-1",
		"5 -9":                            "4:-1 5:0 8:0 9:1 1099511627776:1 1099511627777:-1",
		"5 -9 12":                         "8:0 9:1 11:1 12:2 99:2",
		"0 -1 2 -3 4 -5 6 -7":             "-1:-1 0:0 1:1 2:2 3:3 4:4 5:5 6:6 7:7 8:7",
		"0 10 20 30 40 50 60 70":          "-1:-1 0:0 9:0 10:1 19:1 20:2 29:2 30:3 39:3 40:4 49:4 50:5 59:5 60:6 69:6 70:7 99:7",
		"0 10 20 30 40 50 60":             "-1:-1 0:0 9:0 10:1 19:1 20:2 29:2 30:3 39:3 40:4 49:4 50:5 59:5 60:6 69:6 70:6",
		"5 5":                             "4:-1 5:-1 6:-1",
		"-0":                              "0:-1 5:-1",
		"0 -5 -6":                         "0:-1 5:-1 9:-1",
		"0 1099511627777":                 "0:-1 1099511627777:-1",
		"0 10 20 30 40 50 60 70 80":       "0:-1 45:-1 90:-1",
		"9223372036854775807":             "0:-1 9223372036854775807:-1",
		"0 9223372036854775807 1 2 3 4 5": "0:-1 9223372036854775807:-1",
	} {
		l := begins(t, text)
		for _, w := range strings.Fields(want) {
			time, at, _ := strings.Cut(w, ":")
			if got := timeline.At(l, num(time)); got != int(num(at)) || sketchAt(l, num(time)) != got {
				t.Errorf("%q at %s: %d", text, time, got)
			}
		}
	}
	if at := timeline.At(make([]api.Version, 1), 0); at != -1 {
		t.Error(at)
	}
}

// P15.1: O1 and O2, of thrown versions, against the sketch.
func TestThrownVersions(t *testing.T) {
	r := dice(151)
	is := map[bool]int{}
	puts, backs := map[api.Errno]int{}, map[api.Errno]int{}
	for range 20000 {
		l := r.anyVersions()
		right := timeline.Right(l)
		if is[right]++; right != sketchRight(l) {
			t.Fatalf("%v: %v", l, right)
		}
		v := r.version(int64(r.below(50)))
		if r.rarely(3) {
			v = drop(v.From)
		}
		one := []api.Version{v}
		if r.rarely(9) {
			r.change(one)
		}
		e, _ := put(t, l, one[0])
		puts[e]++
		e, _ = back(t, l)
		backs[e]++
		if got, want := toldSpans(timeline.Spans(l)), toldSpans(sketchSpans(l)); got != want {
			t.Errorf("%v: %s is not %s", l, got, want)
		}
		for range 9 {
			time := int64(r.below(60) - 3)
			if r.rarely(9) {
				time = most + int64(r.below(5)-2)
			}
			if got, want := timeline.At(l, time), sketchAt(l, time); got != want {
				t.Errorf("%v at %d: %d is not %d", l, time, got, want)
			}
		}
		if t.Failed() {
			t.FailNow()
		}
	}
	if min(is[true], is[false]) < 4000 || min(puts[api.OK], puts[api.ErrArg], backs[api.OK], backs[api.ErrArg], puts[api.ErrNone], backs[api.ErrNone]) < 1000 || puts[api.ErrTooMany] < 100 {
		t.Error("too few", is, puts, backs)
	}
}
