package run_test

import (
	"math"
	"testing"

	"augury/api"
	"augury/run"
	"augury/tree"
)

// P13.1: M2, of one query: which runs go on, and which are matches.
func TestTime(t *testing.T) {
	for i, c := range []struct {
		query, runs string
		time        int64
		on, found   string
	}{
		// What waits: ahead of the end of its time, at it, behind it.
		{"a x then not c n within 3", "0:a1/", 0, "0:a1/", ""},
		{"a x then not c n within 3", "0:a1/", 1, "0:a1/", ""},
		{"a x then not c n within 3", "0:a1/", 3, "0:a1/", ""},
		{"a x then not c n within 3", "0:a1/", 4, "", "4:a1/"},
		{"a x then not c n within 3", "0:a1/", 5, "", "4:a1/"},
		{"a x then not c n within 3", "0:a1/", 99, "", "4:a1/"},
		{"a x then not c n within 3", "0:a1/", math.MaxInt64, "", "4:a1/"},
		// What does not wait is gone when its time is over.
		{"a x then b y within 3", "0:a1/", 3, "0:a1/", ""},
		{"a x then b y within 3", "0:a1/", 4, "", ""},
		{"a x then b y within 3", "0:a1/", 99, "", ""},
		{"a x+ within 3", "0:a1 a3", 3, "0:a1 a3", ""},
		{"a x+ within 3", "0:a1 a3", 4, "", ""},
		// When it began counts, not what came last.
		{"a x+ then not c n within 3", "0:a1 a3/", 4, "", "4:a1 a3/"},
		{"a x then b y? then not c n within 3", "1:a1/b4/", 4, "", "4:a1/b4/"},
		{"a x then b y? then not c n within 3", "1:a5/b4/", 7, "1:a5/b4/", ""},
		{"a x then b y? then not c n within 3", "1:a5/b4/", 8, "", "8:a5/b4/"},
		// All go on below 0, also those of long ago.
		{"a x then not c n within 0", "0:a0/, 0:a1/", -1, "0:a0/, 0:a1/", ""},
		{"a x then not c n within 3", "0:a0/", math.MinInt64, "0:a0/", ""},
		{"a x then not c n within 1099511627776", "0:a0/", math.MinInt64, "0:a0/", ""},
		{"a x then b y within 0", "0:a0/, 1:a1/b1", -2, "0:a0/, 1:a1/b1", ""},
		// At 0.
		{"a x then not c n within 0", "0:a0/, 0:a1/", 0, "0:a1/", "0:a0/"},
		{"a x then not c n within 1", "0:a0/, 0:a1/", 0, "0:a0/, 0:a1/", ""},
		{"a x then b y within 0", "0:a0/, 0:a1/", 0, "0:a1/", ""},
		// Within 0: over at once.
		{"a x then not c n within 0", "0:a5/", 4, "0:a5/", ""},
		{"a x then not c n within 0", "0:a5/", 5, "", "5:a5/"},
		// Within as much as may be, and began as late as may be.
		{"a x then not c n within 1099511627776", "0:a0/", most - 1, "0:a0/", ""},
		{"a x then not c n within 1099511627776", "0:a0/", most, "", "1099511627776:a0/"},
		{"a x then not c n within 1099511627776", "0:a1099511627776/", 2*most - 1, "0:a1099511627776/", ""},
		{"a x then not c n within 1099511627776", "0:a1099511627776/", 2 * most, "", "2199023255552:a1099511627776/"},
		{"a x then not c n within 0", "0:a1099511627776/", most - 1, "0:a1099511627776/", ""},
		{"a x then not c n within 0", "0:a1099511627776/", most, "", "1099511627776:a1099511627776/"},
		// What waits and what does not, over at once and not: in order.
		{"a x then not c n then b y? within 3", "0:a4//, 0:a2//, 2:a1//b2, 0:a1//, 2:a3//b3, 0:a1//, 0:a0//, 2:a9//b9", 5, "0:a4//, 2:a3//b3, 2:a9//b9", "5:a2//, 4:a1//, 4:a1//, 3:a0//"},
		{"a x then b y then not c n within 2", "1:a3/b4/, 0:a3//, 1:a5/b5/, 0:a4//, 1:a1/b2/", 5, "1:a5/b5/, 0:a4//", "5:a3/b4/, 3:a1/b2/"},
		// Alike ones stay as many.
		{"a x then not c n within 3", "0:a1/, 0:a1/, 0:a9/, 0:a9/", 4, "0:a9/, 0:a9/", "4:a1/, 4:a1/"},
		// All that is bound is told, also of a Not, and behind the place.
		{"a x then not c n then b y? within 3", "0:a1.7/c2.8 c1/b3.9.4", 4, "", "4:a1.7/c2.8 c1/b3.9.4"},
		{"a x then not c n then b y? within 3", "0:a1.7/c2.8 c1/b3.9.4", 3, "0:a1.7/c2.8 c1/b3.9.4", ""},
		{"a x then not c n within 3", "", 4, "", ""},
	} {
		for _, pick := range []string{"any", "next", "strict"} {
			q := parsed(t, "seq "+c.query+" pick "+pick)
			on, found := times(t, q, runs(c.runs), c.time)
			if toldRuns(on) != c.on || toldMatches(found) != c.found {
				t.Errorf("%d: %s and %s", i, toldRuns(on), toldMatches(found))
			}
		}
	}
}

// P13.1: M2, a run that is not right is gone, at each time, and of a query that is not right all are.
func TestTimeOfWrong(t *testing.T) {
	q, wrong, right := wrongAndRight(t)
	var mixed []api.Run
	for i, r := range wrong {
		mixed = append(mixed, r, right[i%len(right)])
	}
	for _, time := range []int64{math.MinInt64, -1, 0, 2, 3, 4, 5, 100, most, most + 2, most + 3, most + 4, math.MaxInt64} {
		if on, found := run.Time(q, wrong, time); len(on)+len(found) > 0 {
			t.Errorf("%d: %s and %s", time, toldRuns(on), toldMatches(found))
		}
		on, found := times(t, q, right, time)
		if len(on)+len(found) != len(right) {
			t.Errorf("%d: %s and %s", time, toldRuns(on), toldMatches(found))
		}
		if on, found := times(t, q, mixed, time); len(on)+len(found) != len(wrong) {
			t.Errorf("%d: %s and %s", time, toldRuns(on), toldMatches(found))
		}
		for i, w := range wrongQueries(q) {
			if on, found := run.Time(w, right, time); len(on)+len(found) > 0 {
				t.Errorf("%d: %s and %s", i, toldRuns(on), toldMatches(found))
			}
		}
	}
}

// P13.1: M2, of thrown queries and runs, against the sketch. P13.4: behind it none is left whose time is over.
func TestThrownTimes(t *testing.T) {
	r := dice(132)
	ons, founds, gone := 0, 0, 0
	for range 16000 {
		q := r.query(6)
		l, time := r.runs(q, 6), int64(r.below(24)-2)
		on, found := times(t, q, l, time)
		left(t, q, on, time)
		if t.Failed() {
			t.FailNow()
		}
		ons, founds, gone = ons+len(on), founds+len(found), gone+len(l)-len(on)-len(found)
	}
	if min(ons, founds, gone) < 3000 {
		t.Error("too few", ons, founds, gone)
	}
}

// left asks that of runs that are left no time is over.
func left(t *testing.T, q api.Query, on []api.Run, time int64) {
	t.Helper()
	for _, r := range on {
		if time >= 0 && run.First(r)+q.Within <= time {
			t.Errorf("%s: %s at %d", tree.Print(q), toldRuns(on), time)
		}
	}
}

// P13.4: a time that comes in two steps, or more, finds the same, and leaves the same.
func TestTwoSteps(t *testing.T) {
	r := dice(133)
	both := 0
	for range 16000 {
		q := r.query(6)
		l := r.runs(q, 8)
		last := int64(r.below(22) - 2)
		wantOn, wantFound := run.Time(q, l, last)
		var found []api.Match
		on, step := l, int64(-3)
		for range 1 + r.below(4) {
			step += int64(r.below(8))
			if step > last {
				break
			}
			some, more := run.Time(q, on, step)
			on, found = some, append(found, more...)
			left(t, q, on, step)
		}
		first := len(found)
		on, rest := run.Time(q, on, last)
		found = append(found, rest...)
		if first > 0 && len(rest) > 0 {
			both++
		}
		if toldRuns(on) != toldRuns(wantOn) || !sameSet(all(found), all(wantFound)) {
			t.Fatalf("%s: %s and %s are not %s and %s", tree.Print(q), toldRuns(on), toldMatches(found), toldRuns(wantOn), toldMatches(wantFound))
		}
	}
	if both < 300 {
		t.Error("too few", both)
	}
}

// P13.4: at each time of a row of runs.
func TestEachTime(t *testing.T) {
	q := parsed(t, "seq a x then not c n then b y? within 3")
	l := runs("0:a4//, 0:a2//, 2:a1//b2, 0:a1//, 2:a3//b3, 0:a0//, 2:a9//b9, 0:a9//")
	for last := int64(-2); last < 15; last++ {
		on, found := run.Time(q, l, last)
		left(t, q, on, last)
		for first := int64(-2); first <= last; first++ {
			some, one := run.Time(q, l, first)
			rest, two := run.Time(q, some, last)
			if toldRuns(rest) != toldRuns(on) || !sameSet(all(append(one, two...)), all(found)) {
				t.Errorf("%d, %d: %s and %s", first, last, toldRuns(rest), toldMatches(two))
			}
		}
	}
}
