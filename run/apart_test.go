package run_test

import (
	"slices"
	"testing"

	"augury/api"
	"augury/run"
	"augury/tree"
)

// timesApart asks whether Time of runs is that of each, one row behind the other.
func timesApart(t *testing.T, q api.Query, l []api.Run, time int64) {
	t.Helper()
	on, found := run.Time(q, l, time)
	var wantOn []api.Run
	var wantFound []api.Match
	for _, one := range l {
		some, more := run.Time(q, []api.Run{one}, time)
		wantOn, wantFound = append(wantOn, some...), append(wantFound, more...)
	}
	if !slices.Equal(all(on), all(wantOn)) || !slices.Equal(all(found), all(wantFound)) {
		t.Errorf("%s: %s at %d: %s and %s", tree.Print(q), toldRuns(l), time, toldRuns(on), toldMatches(found))
	}
	for cut := range len(l) + 1 {
		someOn, someFound := run.Time(q, l[:cut], time)
		restOn, restFound := run.Time(q, l[cut:], time)
		if toldRuns(append(someOn, restOn...)) != toldRuns(on) || toldMatches(append(someFound, restFound...)) != toldMatches(found) {
			t.Errorf("%s: %s at %d, cut at %d", tree.Print(q), toldRuns(l), time, cut)
		}
	}
}

// stepsApart asks whether Step of runs is that of each, one row behind the other, but for what begins, which
// is there once, behind all. Matches by time come ahead of those by the event, each row of them in order.
func stepsApart(t *testing.T, q api.Query, l []api.Run, e api.Event) {
	t.Helper()
	begunOn, begunFound := run.Step(world(), q, nil, e)
	apart := func(l []api.Run) ([]api.Run, []api.Match) {
		on, found := run.Step(world(), q, l, e)
		ons, founds := len(on)-len(begunOn), len(found)-len(begunFound)
		if ons < 0 || founds < 0 || toldRuns(on[ons:]) != toldRuns(begunOn) || toldMatches(found[founds:]) != toldMatches(begunFound) {
			t.Fatalf("%s: %s of %v: %s and %s", tree.Print(q), toldRuns(l), e, toldRuns(on), toldMatches(found))
		}
		return on[:ons], found[:founds]
	}
	on, found := apart(l)
	var wantOn []api.Run
	var wantFound []api.Match
	for _, one := range l {
		some, more := apart([]api.Run{one})
		wantOn, wantFound = append(wantOn, some...), append(wantFound, more...)
	}
	if !slices.Equal(all(on), all(wantOn)) || !sameSet(all(found), all(wantFound)) {
		t.Errorf("%s: %s of %v: %s and %s", tree.Print(q), toldRuns(l), e, toldRuns(on), toldMatches(found))
	}
	for cut := range len(l) + 1 {
		someOn, someFound := apart(l[:cut])
		restOn, restFound := apart(l[cut:])
		if toldRuns(append(someOn, restOn...)) != toldRuns(on) || !sameSet(all(append(someFound, restFound...)), all(found)) {
			t.Errorf("%s: %s of %v, cut at %d", tree.Print(q), toldRuns(l), e, cut)
		}
	}
}

// P13.3: of rows of runs that take, stay, wait, are gone, and are not right.
func TestApart(t *testing.T) {
	for query, l := range map[string]string{
		"a x then b y within 3":                            "0:a1/, 0:a5/, 1:a4/b5, 0:a4/, 0:a4/",
		"a x+ then not c n then b y? within 3":             "0:a4//, 2:a4//b4, 0:a1//, 0:a3 a4//, 1:a4//, 0:a0//, 2:a1//b2, 0:a5//",
		"a x then b y? then b z? then not c n within 3":    "0:a4///, 1:a4/b4//, 2:a5//b5/, 0:a1///, 2:a4/b4/b4/, 9:a4///, 0:a4//",
		"a x then not c n then b y where n.v = 3 within 3": "0:a4//, 0:a5//, 0:a1//, 2:a4//b4",
		"a x where x.v = 3 within 3":                       "0:a4.3, 0:a5.3, 0:a1.3",
	} {
		for _, pick := range []string{"any", "next", "strict"} {
			q := parsed(t, "seq "+query+" pick "+pick)
			for time := int64(-1); time < 10; time++ {
				timesApart(t, q, runs(l), time)
				for _, name := range []string{"a", "b", "c", "d", "A"} {
					for _, v := range []string{"", ".3", ".4"} {
						e := one("x0" + v)
						e.Name, e.Ts = name, time
						stepsApart(t, q, runs(l), e)
					}
				}
			}
		}
	}
}

// P13.3: of thrown queries, runs and events.
func TestThrownApart(t *testing.T) {
	r := dice(138)
	ons, founds := 0, 0
	for range 3000 {
		q := r.query(6)
		l := r.runs(q, 6)
		at := int64(r.below(14))
		e := r.event(at)
		timesApart(t, q, l, at-1)
		stepsApart(t, q, l, e)
		if t.Failed() {
			t.FailNow()
		}
		on, found := run.Step(world(), q, l, e)
		ons, founds = ons+len(on), founds+len(found)
	}
	if min(ons, founds) < 1000 {
		t.Error("too few", ons, founds)
	}
}

// P13.3: more runs of the same, each by itself.
func TestAlikeRuns(t *testing.T) {
	for _, c := range []struct{ pick, one, found string }{{"any", "0:a1//, 0:a1 a2//, 1:a1/a2/", "2:a1//a2"}, {"next", "0:a1 a2//", ""}, {"strict", "0:a1 a2//", ""}} {
		q := parsed(t, "seq a x+ then a y? then a z where z.v < 9 within 5 pick "+c.pick)
		for many := range 5 {
			on, found := run.Step(world(), q, slices.Repeat(runs("0:a1//"), many), one("a2"))
			wantOn, wantFound := "", ""
			for range many {
				wantOn += c.one + ", "
				wantFound += ", " + c.found
			}
			if c.found == "" {
				wantFound = ""
			}
			if toldRuns(on) != wantOn+"0:a2//" || ", "+toldMatches(found) != wantFound && len(wantFound)+len(found) > 0 {
				t.Errorf("%s, %d: %s and %s", c.pick, many, toldRuns(on), toldMatches(found))
			}
		}
	}
}
