package timeline_test

import (
	"math"
	"slices"
	"strconv"
	"strings"
	"testing"

	"augury/api"
	"augury/timeline"
)

// P15.1: O3, books that are not degraded.
func TestBook(t *testing.T) {
	for i, c := range []struct {
		versions, events string
		time             int64
		want             string
	}{
		// The document's example: the first is in force up to 5.
		{"0 a x within 9 | 5 b x within 9", "a1 b1 a4 b4 a5 b5 a6 b6", 90, "1:a1, 4:a4, 5:b5, 6:b6"},
		// One alone, from a time on; a match that is done at From, and one below it.
		{"0 a x within 9", "a0 a1 a1099511627776", math.MaxInt64, "0:a0, 1:a1, 1099511627776:a1099511627776"},
		{"5 a x within 9", "a4 a5 a6", 90, "5:a5, 6:a6"},
		{"5 a x then b y within 9", "a1 b4 b5 b6", 90, "5:a1/b5, 6:a1/b6"},
		{"5 a x then not c n within 3", "a1 a2 a3", 90, "5:a2/, 6:a3/"},
		{"1099511627776 a x within 9", "a1099511627775 a1099511627776", math.MaxInt64, "1099511627776:a1099511627776"},
		// A match that is done at To less 1, and at To.
		{"0 a x then not c n within 3 | 6 b x within 0", "a2 a3 b6", 90, "5:a2/, 6:b6"},
		{"0 a x within 3 | 6 b x within 0", "a5 b5 a6 b6", 90, "5:a5, 6:b6"},
		{"0 a x then b y within 9 | 6 a x then b y within 2", "a3 b5 b6 a5 b7", 90, "5:a3/b5, 6:a5/b6, 7:a5/b7"},
		{"0 a x then b y? then not c n within 3 | 6 d x within 0", "a2 b3 a3 b4", 90, "5:a2//, 5:a2/b3/, 5:a2/b4/"},
		// It looks back to what came ahead of its From, whatever was in force then, and takes nothing over.
		{"0 a x then b y within 9 | 6 a x then b y within 3", "a2 a3 b6", 90, "6:a3/b6"},
		{"0 a x then b y within 1 | 6 a x then b y within 9", "a2 a3 b6", 90, "6:a2/b6, 6:a3/b6"},
		{"0 a x then b y within 9 pick next | 6 a x then b y within 9 pick next", "a2 b5 b6", 90, "5:a2/b5"},
		{"0 c x within 9 | 6 a x then b y within 9 pick next", "a2 b5 b6", 90, ""},
		{"6 a x then b y then c z within 9 pick strict", "a2 b5 c6 a3 b7 c8", 90, "6:a3/b5/c6"},
		{"6 a x then b y then c z within 9 pick strict", "a2 b5 c6", 90, "6:a2/b5/c6"},
		{"6 a x then not c n then b y within 9", "a2 c3 a4 b6", 90, "6:a4//b6"},
		// Of two spans each its own, span by span.
		{"0 a x then b y within 9 | 4 a x then b y within 2", "a1 b2 a3 b4 a5 b6", 90, "2:a1/b2, 4:a3/b4, 6:a5/b6"},
		{"0 a x within 1 | 2 b x within 1 | 4 a or b x within 1", "a1 b1 a2 b2 a3 b3 a4 b4#1", 90, "1:a1, 2:b2, 3:b3, 4:a4, 4:b4#1"},
		{"0 a x within 1 | 1 a x within 1 | 2 a x within 1", "a0 a1 a2 a3", 90, "0:a0, 1:a1, 2:a2, 3:a3"},
		// Drops: at the end, between, and looked back over.
		{"0 a x within 1 | 3 drop", "a1 a2 a3 a4", 90, "1:a1, 2:a2"},
		{"0 a x within 1 | 3 drop | 5 a x within 1", "a1 a2 a3 a4 a5 a6", 90, "1:a1, 2:a2, 5:a5, 6:a6"},
		{"0 a x within 1 | 3 drop | 5 a x then b y within 4 | 7 drop", "a1 a2 b3 b4 b5 a6 b6#1 b7 a8", 90, "1:a1, 2:a2, 5:a1/b5, 5:a2/b5, 6:a2/b6#1, 6:a6/b6#1"},
		{"0 a x then not c n within 3 | 5 drop", "a1 a2", 90, "4:a1/"},
		// A time ahead of all Froms, at one, one below it, and above.
		{"5 a x then b y within 9 | 8 b x within 9", "a1 b5 b6 b8 b9", 4, ""},
		{"5 a x then b y within 9 | 8 b x within 9", "a1 b5 b6 b8 b9", 5, "5:a1/b5"},
		{"5 a x then b y within 9 | 8 b x within 9", "a1 b5 b6 b8 b9", 7, "5:a1/b5, 6:a1/b6"},
		{"5 a x then b y within 9 | 8 b x within 9", "a1 b5 b6 b8 b9", 8, "5:a1/b5, 6:a1/b6, 8:b8"},
		{"5 a x then b y within 9 | 8 b x within 9", "a1 b5 b6 b8 b9", 9, "5:a1/b5, 6:a1/b6, 8:b8, 9:b9"},
		{"5 a x then b y within 9 | 8 b x within 9", "a1 b5 b6 b8 b9", -1, ""},
		{"5 a x then b y within 9 | 8 b x within 9", "a1 b5 b6 b8 b9", math.MinInt64, ""},
		{"0 a x within 9", "a0 a1", 0, "0:a0"},
		{"0 a x within 9", "a0 a1", -1, ""},
		{"0 a x then not c n within 3 | 9 drop", "a1 a2", 4, "4:a1/"},
		{"0 a x then not c n within 3 | 9 drop", "a1 a2", 3, ""},
		{"0 a x then not c n within 3 | 4 a x then not c n within 3", "a0 a1 a2", 4, "3:a0/, 4:a1/"},
		{"0 a x then not c n within 3 | 4 a x then not c n within 3", "a0 a1 a2", 5, "3:a0/, 4:a1/, 5:a2/"},
		// The last one is in force to the greatest time, and there.
		{"0 a x then not c n within 1099511627776", "a0 a1", math.MaxInt64, "1099511627776:a0/"},
		{"0 a x then not c n within 1099511627776", "a0 a1", most, "1099511627776:a0/"},
		{"0 a x then not c n within 1099511627776", "a0 a1", most - 1, ""},
		{"0 a x within 0 | 1099511627776 a x then not c n within 1099511627775", "a0 a1 a2", math.MaxInt64, "0:a0, 1:a1, 2:a2, 1099511627776:a1/"},
		{"1099511627776 a x then b y within 1099511627776", "a0 b1099511627776", math.MaxInt64, "1099511627776:a0/b1099511627776"},
		// However events are given, and by parts.
		{"0 a x then a y within 9 by id | 5 a x then a y within 4 by v", "a6.8.1 a5.7.2 a4.8.2 a3.7.1 a2.7.2 a1.8.1", 90, "3:a2.7.2/a3.7.1, 4:a1.8.1/a4.8.2, 5:a2.7.2/a5.7.2, 5:a4.8.2/a5.7.2, 6:a3.7.1/a6.8.1"},
		// Nothing.
		{"", "a1 a2", 90, ""},
		{"0 a x within 9", "", 90, ""},
		{"0 a x within 9 | 5 drop", "b1 c7 a5", 90, ""},
	} {
		if got, since := book(t, world(), versions(t, c.versions), events(c.events), c.time); told(got) != c.want || since != -1 {
			t.Errorf("%d: %s since %d", i, told(got), since)
		}
	}
}

// P15.1: O3, of events at From less Within, and of none below it: which of those alike is found first, and which part comes first, hangs on these.
func TestLookback(t *testing.T) {
	for i, c := range []struct{ versions, events, want string }{
		// A part that came within the lookback comes first, for what it has or not.
		{"8 a x then not c n within 3 by id", "a5.9 a5.3", "8:a5.9/"},
		{"8 a x then not c n within 3 by id", "c5.3 a5.9 a5.3", "8:a5.3/"},
		{"8 a x then not c n within 3 by id", "c4.3 a5.9 a5.3", "8:a5.9/"},
		{"8 a x then not c n within 3 by id", "c0.3 a4.3 a5.9 a5.3", "8:a5.9/"},
		{"7 a x then not c n within 3 by id", "c4.3 a5.9 a5.3", "8:a5.3/"},
		{"7 a x then not c n within 3 by id", "c3.3 a5.9 a5.3", "8:a5.9/"},
		{"7 a x then not c n within 4 by id", "c3.3 a5.9 a5.3", "9:a5.3/"},
		{"7 a x then not c n within 4 by id", "c2.3 a5.9 a5.3", "9:a5.9/"},
		// Of a From below Within all that came.
		{"3 a x then not c n within 5 by id", "c0.3 a1.9 a1.3", "6:a1.3/"},
		{"0 a x then not c n within 5 by id", "c0.3 a1.9 a1.3", "6:a1.3/"},
		// Each span has its own, and each its parts.
		{"0 a x then not c n within 3 by id | 8 a x then not c n within 3 by id", "c0.3 a1.9 a1.3 a5.9 a5.3", "4:a1.3/, 8:a5.9/"},
		{"0 a x then not c n within 3 by id | 8 a x then not c n within 8 by id", "c0.3 a1.9 a1.3 a5.9 a5.3", "4:a1.3/, 9:a1.3/, 13:a5.3/"},
		{"0 a x then not c n within 3 by id | 9 a x then not c n within 7 by id", "c1.3 a3.9 a3.3", "6:a3.3/, 10:a3.9/"},
		// Of those alike that is left that was found first.
		{"2 a x within 0", "a2.7 a2.5 a1.7", "2:a2.7"},
		{"2 a x within 0 | 3 a or b x within 0", "a2.5 a2.7 b3 a3", "2:a2.5, 3:b3"},
		{"0 a x within 9 | 2 a x within 9", "a2.5 a1.6 a1.7 a2.7", "1:a1.6, 2:a2.5"},
	} {
		if got, since := book(t, world(), versions(t, c.versions), events(c.events), 90); told(got) != c.want || since != -1 {
			t.Errorf("%d: %s since %d", i, told(got), since)
		}
	}
}

// waves are events of a text: so many of a name, at one time, each with a number of its own: `65*a1 b2`.
func waves(s string) []api.Event {
	var l []api.Event
	for _, w := range strings.Fields(s) {
		count, text, is := strings.Cut(w, "*")
		if !is {
			count, text = "1", w
		}
		for range num(count) {
			e := one(text)
			e.Seq = int64(len(l))
			l = append(l, e)
		}
	}
	return l
}

// dones are when matches were done, and how many at each time: `2 4*64`.
func dones(l []api.Match) string {
	var out []string
	for i := 0; i < len(l); {
		n := i
		for n < len(l) && l[n].Done == l[i].Done {
			n++
		}
		s := strconv.FormatInt(l[i].Done, 10)
		if n > i+1 {
			s += "*" + strconv.Itoa(n-i)
		}
		out = append(out, s)
		i = n
	}
	return strings.Join(out, " ")
}

// P15.1: O3, since when they are degraded: the least of what they answer.
func TestDegraded(t *testing.T) {
	const ab = " a x then b y within "
	for i, c := range []struct {
		versions, events string
		time             int64
		want             string
		since            int64
	}{
		// One alone: as its book is, while it is in force.
		{"0" + ab + "9", "64*a1 b2", 90, "2*64", -1},
		{"0" + ab + "9", "65*a1 b2", 90, "", 1},
		{"0" + ab + "9", "a1 b2 b3 65*a3 b4", 90, "2", 3},
		{"0" + ab + "9", "a1 b2 b3 65*a4 b5", 90, "2 3", 4},
		{"0" + ab + "9", "a1 b2 b3 65*a4 b5", 3, "2 3", -1},
		{"0" + ab + "9", "a1 b2 b3 65*a4 b5", 4, "2 3", 4},
		{"0" + ab + "9", "65*a0", 0, "", 0},
		// At To less 1 it is, at To it is no more.
		{"0" + ab + "9 | 5 c x within 0", "a1 b2 65*a4 b5", 90, "2", 4},
		{"0" + ab + "9 | 5 c x within 0", "a1 b2 65*a5 b6", 90, "2", -1},
		{"0" + ab + "9 | 5 drop", "a1 b2 65*a4 b5", 90, "2", 4},
		{"0" + ab + "9 | 5 drop", "a1 b2 65*a5 b6", 90, "2", -1},
		// What came ahead of From counts, if it is looked back to: at From less Within, and not below it.
		{"5" + ab + "3", "65*a2 b5 b6", 90, "", 2},
		{"5" + ab + "3", "65*a1 b5 a6 b6", 90, "6", -1},
		{"5" + ab + "3", "64*a2 b5 b6", 90, "5*64", -1},
		{"5" + ab + "3", "64*a2 a3 b5", 90, "", 3},
		{"5" + ab + "3", "a1 64*a2 b5", 90, "5*64", -1},
		{"5" + ab + "3", "64*a4 b5 a6 b6", 90, "5*64", 6},
		{"5" + ab + "3", "65*a2", 4, "", -1},
		{"5" + ab + "3", "65*a2", 5, "", 2},
		{"3" + ab + "9", "65*a0 b3", 90, "", 0},
		// Of two the one that is degraded, whichever it is; the other finds all that it does.
		{"0" + ab + "9 | 6" + ab + "2", "65*a1 b2 a5 b6 b7", 90, "6 7", 1},
		{"0" + ab + "9 | 6" + ab + "2", "a1 b2 65*a5 b6 b7", 90, "2", 5},
		{"0" + ab + "9 | 6" + ab + "2", "a1 b2 65*a6 b7", 90, "2", 6},
		{"0" + ab + "1 | 6" + ab + "5", "33*a1 b2 33*a3 b4 b6", 90, "2*33 4*33", 3},
		{"0" + ab + "5 | 6" + ab + "1", "33*a1 b2 33*a3 b4 a6 b6", 90, "2*33 6", 3},
		{"0" + ab + "3 | 6" + ab + "2", "a1 b2 64*a5 b6 b7", 90, "2 6*64 7*64", -1},
		// Of two that are, the sooner one, whichever it is.
		{"0" + ab + "9 | 6" + ab + "2", "65*a1 b2 65*a6 b7", 90, "", 1},
		{"0" + ab + "0 | 6" + ab + "5", "65*a1 b2 65*a5 b7", 90, "", 1},
		{"2" + ab + "0 | 6" + ab + "5", "65*a1 b2 65*a5 b7", 90, "", 1},
		{"2" + ab + "0 | 6" + ab + "4", "65*a1 b2 65*a5 b7", 90, "", 5},
		{"3" + ab + "1 | 6" + ab + "5", "33*a1 33*a2 a3 b3 65*a5 b7", 90, "3*34", 2},
		{"0" + ab + "9 | 6 drop | 8" + ab + "9", "a1 b2 65*a3 b6 b8", 90, "2", 3},
		{"0" + ab + "9 | 6" + ab + "1 | 9" + ab + "1 | 12" + ab + "9", "a1 b2 65*a7 a8 b8 b9 65*a12 b13", 90, "2 9", 7},
		{"0" + ab + "9 | 6" + ab + "1 | 9" + ab + "1 | 12" + ab + "9", "a1 b2 65*a7 a8 b8 b9 65*a12 b13", 11, "2 9", 7},
		{"0" + ab + "9 | 6" + ab + "1 | 9" + ab + "1 | 12" + ab + "9", "a1 b2 a8 b8 b9 65*a12 b13", 90, "2 8 9", 12},
		{"0" + ab + "9 | 6" + ab + "1 | 9" + ab + "1 | 12" + ab + "9", "a1 b2 a8 b8 b9 65*a12 b13", 11, "2 8 9", -1},
	} {
		got, since := book(t, world(), versions(t, c.versions), waves(c.events), c.time)
		if dones(got) != c.want || since != c.since {
			t.Errorf("%d: %s since %d", i, dones(got), since)
		}
	}
}

// wrongEvents are not right, each for one thing.
func wrongEvents() []api.Event {
	var l []api.Event
	for _, n := range []int64{math.MinInt64, -1, most + 1, math.MaxInt64} {
		l = append(l, api.Event{Ts: n, Name: "a"}, api.Event{Ts: 3, Seq: n, Name: "a"})
	}
	for _, v := range []api.Val{{}, {Kind: 4}, {Kind: api.Int, N: most + 1}, {Kind: api.Text, S: strings.Repeat("a", 65)}, {Kind: api.Bool, N: 2}} {
		l = append(l, api.Event{Ts: 3, Name: "a", Vals: []api.Val{v}})
	}
	for _, n := range []string{"", "A", "a ", strings.Repeat("a", 17)} {
		l = append(l, api.Event{Ts: 3, Name: n})
	}
	return append(l, api.Event{Ts: 3, Depth: 4, Name: "a"}, api.Event{Ts: 3, Depth: -1, Name: "a"}, api.Event{Ts: 3, Name: "a", Vals: make([]api.Val, 9)})
}

// P15.1: O3, nothing and -1 of versions that are not right, whatever came; and events that are not are nothing.
func TestBookOfWrong(t *testing.T) {
	l := slices.Concat(events("a1 a2 a3 b4"), waves("65*a5 b6"))
	times := []int64{math.MinInt64, -1, 0, 4, 5, most, math.MaxInt64}
	for _, text := range []string{"-0", "-0 3", "3 3", "3 2", "0 -2 -3", "0 -2 -3 4", "0 1099511627777", "1099511627777", "0 1 2 3 4 5 6 7 8", "0 9223372036854775807"} {
		for _, time := range times {
			if got, since := book(t, world(), begins(t, text), l, time); len(got) > 0 || since != -1 {
				t.Errorf("%q: %s since %d", text, told(got), since)
			}
		}
	}
	for i, q := range notRight(t) {
		for _, v := range [][]api.Version{{{Query: q}}, append(begins(t, "0"), api.Version{From: 5, Query: q}), {{Query: q}, begins(t, "5")[0]}, {begins(t, "0")[0], {From: 2, Drop: true, Query: parsed(t, "seq a x within 5")}}} {
			for _, time := range times {
				if got, since := book(t, world(), v, l, time); len(got) > 0 || since != -1 {
					t.Errorf("%d: %s since %d", i, told(got), since)
				}
			}
		}
	}
	for _, text := range []string{"0 a x then a y within 3 | 3 a x then not c n within 2 | 5 drop", "2 a x+ within 1 | 4 drop | 5 a x then a y within 1099511627776"} {
		v := versions(t, text)
		for _, time := range times {
			want, wantSince := book(t, world(), v, l, time)
			for _, w := range wrongEvents() {
				if got, since := book(t, world(), v, append([]api.Event{w, w}, append(l, w)...), time); told(got) != told(want) || since != wantSince {
					t.Errorf("%s up to %d: %v: %s since %d", text, time, w, told(got), since)
				}
			}
			if got, since := book(t, world(), v, wrongEvents(), time); len(got) > 0 || since != -1 {
				t.Errorf("%s up to %d: %s since %d", text, time, told(got), since)
			}
		}
	}
}

// P15.1: O3, schemas say which field parts, and which are asked for: all versions by the same ones.
func TestBookBySchemas(t *testing.T) {
	other := []api.Schema{{Name: "a", Fields: []api.Field{{Name: "v", Kind: api.Int}, {Name: "id", Kind: api.Int}}}}
	l := versions(t, "0 a x then a y within 9 by id | 4 a x then a y where y.v > 1 within 9 by v")
	ev := events("a1.1.2 a2.1.3 a3.2.2 a4.1.3 a5.2.9")
	for i, c := range []struct {
		schemas []api.Schema
		want    string
	}{
		{world(), "2:a1.1.2/a2.1.3, 4:a2.1.3/a4.1.3"},
		{other, "3:a1.1.2/a3.2.2, 5:a3.2.2/a5.2.9"},
		{append(other, world()...), "3:a1.1.2/a3.2.2, 5:a3.2.2/a5.2.9"},
		{world()[1:], ""},
		{[]api.Schema{}, ""},
		{nil, ""},
	} {
		if got, since := book(t, c.schemas, l, ev, 9); told(got) != c.want || since != -1 {
			t.Errorf("%d: %s since %d", i, told(got), since)
		}
	}
}

// crowd is a row of events, now and then so many that queries are degraded.
func (r *dice) crowd(times int) []api.Event {
	many := r.below(18)
	if r.rarely(5) {
		many += 25
	}
	return r.row(many, times)
}

// P15.1: O3, of thrown versions and events, against the sketch.
func TestThrownBooks(t *testing.T) {
	r := dice(152)
	matches, many, nothing, degraded := 0, 0, 0, 0
	for range 8000 {
		l := r.versions(8)
		if r.rarely(9) {
			l = r.anyVersions()
		}
		ev := r.crowd(1 + r.below(30))
		if r.rarely(3) {
			ev = r.events(r.below(20), 1+r.below(14))
		}
		if r.rarely(8) {
			ev = r.mixed(append(ev, wrongEvents()[r.below(len(wrongEvents()))], r.event(most)))
		}
		schemas := world()
		if r.rarely(12) {
			schemas = schemas[r.below(3):]
		}
		got, since := book(t, schemas, l, ev, int64(r.below(45)-2))
		if t.Failed() {
			t.FailNow()
		}
		matches += len(got)
		if len(got) == 0 {
			nothing++
		} else if timeline.At(l, got[0].Done) != timeline.At(l, got[len(got)-1].Done) {
			many++
		}
		if since >= 0 {
			degraded++
		}
	}
	if matches < 8000 || many < 500 || nothing < 1000 || degraded < 100 {
		t.Error("too few", matches, many, nothing, degraded)
	}
}
