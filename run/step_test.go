package run_test

import (
	"math"
	"strings"
	"testing"

	"augury/api"
	"augury/run"
	"augury/tree"
)

// stepped is one step: of a query without its pick, of runs, an event; what goes on then, and what was found.
type stepped struct{ query, runs, event, on, found string }

// picked asks for a step of a query that picks so.
func (c stepped) picked(t *testing.T, pick string) {
	t.Helper()
	q := parsed(t, "seq "+c.query+" pick "+pick)
	on, found := steps(t, world(), q, runs(c.runs), one(c.event))
	if toldRuns(on) != c.on || toldMatches(found) != c.found {
		t.Errorf("%s: %s\n%s and %s", tree.Print(q), c.event, toldRuns(on), toldMatches(found))
	}
}

// P13.1: M3, what is so whatever is picked: what begins, what is gone by a Guard, and what the query does not look at.
func TestStepsOfAll(t *testing.T) {
	for _, c := range []stepped{
		// What begins goes on, is a match at once, or does both.
		{"a x then b y within 5", "", "a1", "0:a1/", ""},
		{"a x then b y+ within 5", "", "a1", "0:a1/", ""},
		{"a x+ then b y within 5", "", "a1", "0:a1/", ""},
		{"a x then not c n then b y within 5", "", "a1", "0:a1//", ""},
		{"a x then b y? then c z within 5", "", "a1", "0:a1//", ""},
		{"a x within 5", "", "a1", "", "1:a1"},
		{"a x within 0", "", "a0", "", "0:a0"},
		{"a x+ within 5", "", "a1", "0:a1", "1:a1"},
		{"a x then b y? within 5", "", "a1", "0:a1/", "1:a1/"},
		{"a x+ then b y? within 5", "", "a1", "0:a1/", "1:a1/"},
		{"a x then b y? then c z? within 5", "", "a1", "0:a1//", "1:a1//"},
		{"a x then not c n within 5", "", "a1", "0:a1/", ""},
		{"a x then not c n then b y? within 5", "", "a1", "0:a1//", ""},
		{"a x then b y? then not c n within 5", "", "a1", "0:a1//", ""},
		{"a or b x then c y within 5", "", "b1", "0:b1/", ""},
		{"a x then a y within 5", "", "a1", "0:a1/", ""},
		{"a x then not a n within 5", "", "a1", "0:a1/", ""},
		{"a x within 5", "", "a1099511627776.1.2", "", "1099511627776:a1099511627776.1.2"},
		// What fits another item alone begins nothing.
		{"a x then b y within 5", "", "b1", "", ""},
		{"a x+ then b y? within 5", "", "b1", "", ""},
		{"a x then not b n within 5", "", "b1", "", ""},
		// What begins asks the predicates of its place, of itself alone.
		{"a x where x.v = 3 within 5", "", "a1.3", "", "1:a1.3"},
		{"a x where x.v = 3 within 5", "", "a1.2", "", ""},
		{"a x where x.v = 3 within 5", "", "a1", "", "1:a1"},
		{"a x where x.v = 3 and x.w = 4 within 5", "", "a1.3.5", "", ""},
		{"a x where x.v = 3 and x.w = 4 within 5", "", "a1.3.4", "", "1:a1.3.4"},
		{"a x where 1 = 2 within 5", "", "a1", "", ""},
		{"a x+ where count(x) = 1 within 5 by v", "", "a1", "0:a1", "1:a1"},
		{"a x+ where count(x) = 2 within 5", "", "a1", "", ""},
		{"a x then b y where y.v > x.v within 5", "", "a1.3", "0:a1.3/", ""},
		{"a x then b y where y.v > 5 and 1 = 1 within 5", "", "a1.3", "0:a1.3/", ""},
		// Of a name that it does not look at.
		{"a x then b y within 5", "0:a1/, 1:a1/b1, 0:a1 a2/", "c3", "0:a1/, 1:a1/b1, 0:a1 a2/", ""},
		{"a x+ then b y? within 5", "0:a1/, 1:a1/b1", "d3.1", "0:a1/, 1:a1/b1", ""},
		{"a x then not c n within 5", "0:a1/", "n3", "0:a1/", ""},
		{"a x then b y? within 5", "1:a1/b1", "x3", "1:a1/b1", ""},
		{"a x then b y within 5", "", "c3", "", ""},
		// Time comes of it, all the same.
		{"a x then b y within 5", "0:a1/, 0:a2/, 0:a3/", "d8", "0:a3/", ""},
		{"a x then not c n within 5", "0:a1/, 0:a2/, 0:a3/, 1:a9/", "d8", "0:a3/", "6:a1/, 7:a2/"},
		// Guards, of one, of some, with what is in Next.
		{"a x then not c n within 5", "0:a1/", "c2", "", ""},
		{"a x then not c n within 5", "0:a1/", "c6", "", ""},
		{"a x then not c n within 5", "0:a1/", "c7", "", "6:a1/"},
		{"a x then not b n then not c m within 5", "0:a1//", "b2", "", ""},
		{"a x then not b n then not c m within 5", "0:a1//", "c2", "", ""},
		{"a x then not b or c n then d y within 5", "0:a1//", "b2", "", ""},
		{"a x then not b or c n then d y within 5", "0:a1//", "c2", "", ""},
		{"a x then not b n then b or c y within 5", "0:a1//", "b2", "", ""},
		{"a x then b y? then not b n within 5", "0:a1//", "b2", "", ""},
		{"a x+ then not a n then b y within 5", "0:a1//", "a2", "0:a2//", ""},
		{"a x+ then not a n within 5", "0:a1/", "a2", "0:a2/", ""},
		{"a x then not a n then a y within 5", "0:a1//", "a2", "0:a2//", ""},
		{"a x then not c n then b y? within 5", "0:a1//, 0:a2//", "c3", "", ""},
		{"a x then b y? then not c n then d z within 5", "0:a1///, 1:a1/b2//", "c3", "", ""},
		// Guards ask the predicates of their places, of what is bound.
		{"a x then not c n where n.v = x.v within 5", "0:a1.3/, 0:a1.4/", "c2.4", "0:a1.3/", ""},
		{"a x then not c n where n.v > 4 within 5", "0:a1/", "c2.5", "", ""},
		{"a x then not c n where n.v > 4 within 5", "0:a1/", "c2", "", ""},
		{"a x then not c n where n.v > 4 and n.w = 1 within 5", "0:a1/", "c2.5.1", "", ""},
		{"a x then not b n then not c m where n.v > 4 within 5", "0:a1//", "c2.3", "", ""},
		{"a x then not c n where sum(n.v) = 5 within 5", "0:a1/c1.2, 0:a1/, 0:a1/c1.3", "c2.3", "0:a1/, 0:a1/c1.3", ""},
		// Of the same time as what was there, and of one ahead of it.
		{"a x then not c n within 0", "0:a1/", "c1", "", ""},
		{"a x then not c n within 5", "0:a9/", "c1", "", ""},
		{"a x then not c n within 0", "0:a9/", "c1", "", ""},
	} {
		for _, pick := range []string{"any", "next", "strict"} {
			c.picked(t, pick)
		}
	}
}

// P13.1: M3, if any is picked: a run goes on as it is, and by each taker.
func TestStepsOfAny(t *testing.T) {
	for _, c := range []stepped{
		// No taker: also where nothing can come any more.
		{"a x then b y then c z within 5", "0:a1//, 1:a1/b2/", "c3", "0:a1//, 1:a1/b2/", "3:a1/b2/c3"},
		{"a x then b y then c z within 5", "0:a1//", "c3", "0:a1//", ""},
		{"a x then b y within 5", "1:a1/b2", "b3", "1:a1/b2", ""},
		{"a x then not c n then b y? within 5", "2:a1//b2, 0:a1//", "b3", "2:a1//b2, 0:a1//", "3:a1//b3"},
		{"a x then not c n within 5", "0:a1/", "a3", "0:a1/, 0:a3/", ""},
		// One.
		{"a x then b y within 5", "0:a1/", "b2", "0:a1/", "2:a1/b2"},
		{"a x then b y+ within 5", "0:a1/", "b2", "0:a1/, 1:a1/b2", "2:a1/b2"},
		{"a x then b y then c z within 5", "0:a1//", "b2", "0:a1//, 1:a1/b2/", ""},
		{"a x then b y then not c n within 5", "0:a1//", "b2", "0:a1//, 1:a1/b2/", ""},
		{"a x then b y then c z? within 5", "0:a1//", "b2", "0:a1//, 1:a1/b2/", "2:a1/b2/"},
		{"a x then b y then not c n then d z? within 5", "0:a1///", "b2", "0:a1///, 1:a1/b2//", ""},
		// A Plus takes once more.
		{"a x+ then b y within 5", "0:a1/", "a2", "0:a1/, 0:a1 a2/, 0:a2/", ""},
		{"a x then b y+ within 5", "1:a1/b2", "b3", "1:a1/b2, 1:a1/b2 b3", "3:a1/b2 b3"},
		{"a x then b y+ then c z within 5", "1:a1/b2/", "b3", "1:a1/b2/, 1:a1/b2 b3/", ""},
		{"a x then b y+ then not c n within 5", "1:a1/b2/", "b3", "1:a1/b2/, 1:a1/b2 b3/", ""},
		{"a x+ within 5", "0:a1, 0:a1 a2", "a3", "0:a1, 0:a1 a3, 0:a1 a2, 0:a1 a2 a3, 0:a3", "3:a1 a3, 3:a1 a2 a3, 3:a3"},
		// Some, in the order of the items.
		{"a x+ then a y within 5", "0:a1/", "a2", "0:a1/, 0:a1 a2/, 0:a2/", "2:a1/a2"},
		{"a x+ then a y? then a z within 5", "0:a1//", "a2", "0:a1//, 0:a1 a2//, 1:a1/a2/, 0:a2//", "2:a1//a2"},
		{"a x then b y? then b or c z? within 5", "0:a1//, 1:a1/b1/", "b2", "0:a1//, 1:a1/b2/, 1:a1/b1/", "2:a1/b2/, 2:a1//b2, 2:a1/b1/b2"},
		{"a x then b y? then b z+ within 5", "0:a1//", "b2", "0:a1//, 1:a1/b2/, 2:a1//b2", "2:a1//b2"},
		{"a x then a y? then a z? then a w? within 5", "0:a1///, 2:a1//a2/", "a3", "0:a1///, 1:a1/a3//, 2:a1//a3/, 2:a1//a2/, 0:a3///", "3:a1/a3//, 3:a1//a3/, 3:a1///a3, 3:a1//a2/a3, 3:a3///"},
		// Some of Next, by their names, and by their predicates.
		{"a x then b y? then c z? then b or c w? within 5", "0:a1///", "c2", "0:a1///, 2:a1//c2/", "2:a1//c2/, 2:a1///c2"},
		{"a x then b y? then b z? then b w where y.v = 1 and z.v = 2 and w.v < 3 within 5", "0:a1///", "b2.2", "0:a1///, 2:a1//b2.2/", "2:a1///b2.2"},
		{"a x then b y? then b z? then b w where y.v = 1 and z.v = 2 and w.v < 3 within 5", "0:a1///", "b2.4", "0:a1///", ""},
		{"a x+ then a y where x.v < 3 and y.v > 1 within 5", "0:a1.1/, 0:a1.2/", "a2.3", "0:a1.1/, 0:a1.2/", "2:a1.1/a2.3, 2:a1.2/a2.3"},
		{"a x+ then a y where x.v < 3 and y.v > 1 within 5", "0:a1.1/", "a2.1", "0:a1.1/, 0:a1.1 a2.1/, 0:a2.1/", ""},
		// By predicates of what is bound so far, the event with it.
		{"a x then b y+ where sum(y.v) < 6 within 5", "1:a1/b2.3, 1:a1/b2.4", "b3.2", "1:a1/b2.3, 1:a1/b2.3 b3.2, 1:a1/b2.4", "3:a1/b2.3 b3.2"},
		{"a x then b y where y.v = x.v + 1 within 5", "0:a1.3/, 0:a1.4/, 0:a1/", "b2.4", "0:a1.3/, 0:a1.4/, 0:a1/", "2:a1.3/b2.4, 2:a1/b2.4"},
		{"a x then b y? then c z where z.v = y.v within 5", "0:a1.3//, 1:a1/b2.4/, 1:a1/b2.5/", "c4.5", "0:a1.3//, 1:a1/b2.4/, 1:a1/b2.5/", "4:a1.3//c4.5, 4:a1/b2.5/c4.5"},
		{"a x+ then b y where count(x) = 2 and x.v > 1 within 5", "0:a1.5/", "a2.1", "0:a1.5/", ""},
		// Predicates of no item's are asked at the first one, not behind.
		{"a x then b y where 1 = 2 within 5", "0:a1/", "b2", "0:a1/", "2:a1/b2"},
		// A taken item that is bound already has the event behind the others.
		{"a x then b y? then c z within 5", "0:a1/b9.1 b8.2/c7", "b2.3", "0:a1/b9.1 b8.2/c7, 1:a1/b9.1 b8.2 b2.3/c7", ""},
		{"a x then b y? then c z within 5", "0:a1/b9.1 b8.2/c7", "c2.3", "0:a1/b9.1 b8.2/c7", "2:a1/b9.1 b8.2/c7 c2.3"},
		// A Guard ahead takes one run away, and not the others.
		{"a x then not c n then b y then c z within 5", "0:a1///, 2:a1//b2/, 0:a2///", "c3", "2:a1//b2/", "3:a1//b2/c3"},
		{"a x then b y? then not c n then c z within 5", "0:a1///, 2:a1///, 1:a1/b2//", "c3", "", ""},
		// Time first, then each run, then what begins: in this order.
		{"a x+ then not c n then b y? within 2", "0:a4//, 0:a1//, 2:a1//b2, 0:a2//, 0:a3//", "a5", "0:a4//, 0:a4 a5//, 0:a3//, 0:a3 a5//, 0:a5//", "3:a1//, 4:a2//"},
		{"a x then not c n then b y? within 2", "0:a4//, 0:a1//, 0:a3//, 0:a2//", "b5", "0:a4//, 0:a3//", "3:a1//, 4:a2//, 5:a4//b5, 5:a3//b5"},
		{"a x+ then b y? within 5", "0:a9/, 0:a2/, 1:a3/b3", "a6", "0:a9/, 0:a9 a6/, 0:a2/, 0:a2 a6/, 1:a3/b3, 0:a6/", "6:a9 a6/, 6:a2 a6/, 6:a6/"},
		// Within its time: at the end, and behind it.
		{"a x then b y within 3", "0:a1/, 0:a2/", "b4", "0:a1/, 0:a2/", "4:a1/b4, 4:a2/b4"},
		{"a x then b y within 3", "0:a1/, 0:a2/", "b5", "0:a2/", "5:a2/b5"},
		{"a x then b y within 0", "0:a1/, 0:a0/", "b1", "0:a1/", "1:a1/b1"},
		{"a x then b y within 0", "0:a0/", "b0", "0:a0/", "0:a0/b0"},
		{"a x then b y within 1099511627776", "0:a0/", "b1099511627776", "0:a0/", "1099511627776:a0/b1099511627776"},
		// Of the same time, and ahead of what was there.
		{"a x+ then b y within 3", "0:a5 a5/", "a5", "0:a5 a5/, 0:a5 a5 a5/, 0:a5/", ""},
		{"a x+ then b y within 3", "0:a5/", "b2", "0:a5/", "2:a5/b2"},
		{"a x+ within 0", "0:a5", "a1", "0:a5, 0:a5 a1, 0:a1", "1:a5 a1, 1:a1"},
		// At 0 no time is over.
		{"a x then not c n then b y? within 0", "0:a0//", "b0", "0:a0//", "0:a0//b0"},
		// Runs that are not right are gone.
		{"a x then not c n then b y within 5", "-1:a1//, 1:a1//, 3:a1//, 0:/a1/, 0:a1/, 0:a1///, 0:a-1//, 0:a1//", "b2", "0:a1//", "2:a1//b2"},
		{"a x then not c n then b y within 5", "-1:a1//, 1:a1//, 3:a1//, 0:/a1/, 0:a1/, 0:a1///, 0:a-1//, 0:a1//", "d2", "0:a1//", ""},
	} {
		c.picked(t, "any")
	}
}

// P13.1: M3, if the next is picked: a run takes by the first taker, or goes on as it is.
func TestStepsOfNext(t *testing.T) {
	for _, c := range []stepped{
		// No taker.
		{"a x then b y then c z within 5", "0:a1//, 1:a1/b2/", "c3", "0:a1//", "3:a1/b2/c3"},
		{"a x then b y within 5", "1:a1/b2", "b3", "1:a1/b2", ""},
		{"a x then not c n within 5", "0:a1/", "a3", "0:a1/, 0:a3/", ""},
		{"a x then b y where y.v = 3 within 5", "0:a1/", "b2.4", "0:a1/", ""},
		{"a x then not c n then b y where n.v = 3 within 5", "0:a1//", "c2.4", "0:a1//", ""},
		// One.
		{"a x then b y within 5", "0:a1/", "b2", "", "2:a1/b2"},
		{"a x then b y+ within 5", "0:a1/", "b2", "1:a1/b2", "2:a1/b2"},
		{"a x then b y then c z within 5", "0:a1//", "b2", "1:a1/b2/", ""},
		{"a x then b y then not c n within 5", "0:a1//", "b2", "1:a1/b2/", ""},
		{"a x then b y then c z? within 5", "0:a1//", "b2", "1:a1/b2/", "2:a1/b2/"},
		{"a x then b y then not c n then d z? within 5", "0:a1///", "b2", "1:a1/b2//", ""},
		{"a x+ then b y within 5", "0:a1/", "a2", "0:a1 a2/, 0:a2/", ""},
		{"a x+ within 5", "0:a1, 0:a1 a2", "a3", "0:a1 a3, 0:a1 a2 a3, 0:a3", "3:a1 a3, 3:a1 a2 a3, 3:a3"},
		// Some: the first one alone, by the items' order, and by predicates.
		{"a x+ then a y within 5", "0:a1/", "a2", "0:a1 a2/, 0:a2/", ""},
		{"a x then b y? then b z within 5", "0:a1//, 1:a1/b1/", "b2", "1:a1/b2/", "2:a1/b1/b2"},
		{"a x then b y? then b z? within 5", "0:a1//", "b2", "1:a1/b2/", "2:a1/b2/"},
		{"a x then b y? then b z? then b w where y.v = 1 and z.v = 2 and w.v < 3 within 5", "0:a1///", "b2.1", "1:a1/b2.1//", ""},
		{"a x then b y? then b z? then b w where y.v = 1 and z.v = 2 and w.v < 3 within 5", "0:a1///", "b2.2", "2:a1//b2.2/", ""},
		{"a x then b y? then b z? then b w where y.v = 1 and z.v = 2 and w.v < 3 within 5", "0:a1///", "b2.0", "", "2:a1///b2.0"},
		{"a x then b y? then b z? then b w where y.v = 1 and z.v = 2 and w.v < 3 within 5", "0:a1///", "b2.3", "0:a1///", ""},
		{"a x+ then a y where x.v < 3 within 5", "0:a1.1/", "a2.3", "", "2:a1.1/a2.3"},
		// Time first, then each run, then what begins.
		{"a x+ then not c n then b y? within 2", "0:a4//, 0:a1//, 2:a1//b2, 0:a2//, 0:a3//", "a5", "0:a4 a5//, 0:a3 a5//, 0:a5//", "3:a1//, 4:a2//"},
		{"a x then not c n then b y? within 2", "0:a4//, 0:a1//, 0:a3//, 0:a2//", "b5", "", "3:a1//, 4:a2//, 5:a4//b5, 5:a3//b5"},
		{"a x then b y within 3", "0:a1/, 0:a2/", "b5", "", "5:a2/b5"},
		{"a x then not c n then b y within 5", "-1:a1//, 1:a1//, 3:a1//, 0:/a1/, 0:a1/, 0:a1///, 0:a-1//, 0:a1//", "a2", "0:a1//, 0:a2//", ""},
	} {
		c.picked(t, "next")
	}
}

// P13.1: M3, if it is picked strictly: without a taker a run goes on just if it waits.
func TestStepsOfStrict(t *testing.T) {
	for _, c := range []stepped{
		// No taker, and it does not wait: at a One, a Plus, ahead of what must come, at an end.
		{"a x then b y then c z within 5", "0:a1//, 1:a1/b2/", "c3", "", "3:a1/b2/c3"},
		{"a x then b y then c z within 5", "0:a1//, 1:a1/b2/", "a3", "0:a3//", ""},
		{"a x then b y within 5", "1:a1/b2", "b3", "", ""},
		{"a x+ then b y then c z within 5", "0:a1//, 1:a1/b2/", "a3", "0:a1 a3//, 0:a3//", ""},
		{"a x then b y? within 5", "0:a1/, 1:a1/b1", "a3", "0:a3/", "3:a3/"},
		{"a x then not c n then b y within 5", "0:a1//, 2:a1//b2", "a3", "0:a3//", ""},
		{"a x then b y where y.v = 3 within 5", "0:a1/", "b2.4", "", ""},
		{"a x then not c n then b y where n.v = 3 within 5", "0:a1//", "c2.4", "", ""},
		// No taker, and it waits.
		{"a x then not c n within 5", "0:a1/", "a3", "0:a1/, 0:a3/", ""},
		{"a x then b y then not c n within 5", "0:a1//, 1:a1/b2/, 1:a1/b1/", "a3", "1:a1/b2/, 1:a1/b1/, 0:a3//", ""},
		{"a x then b y? then not c n within 5", "0:a1//, 1:a1/b2/", "a3", "0:a1//, 1:a1/b2/, 0:a3//", ""},
		{"a x then not c n then b y? within 5", "0:a1//, 2:a1//b2", "a3", "0:a1//, 0:a3//", ""},
		{"a x then not c n where n.v = x.v within 5", "0:a1.3/, 0:a1.4/", "c2.4", "0:a1.3/", ""},
		{"a x then not c n then b y? where y.v = 3 within 5", "0:a1//", "b2.4", "0:a1//", ""},
		{"a x then b y then not c n then b z? where z.v = 3 within 5", "0:a1///, 1:a1/b1//", "b2.4", "1:a1/b2.4//, 1:a1/b1//", ""},
		// One.
		{"a x then b y within 5", "0:a1/", "b2", "", "2:a1/b2"},
		{"a x then b y+ within 5", "0:a1/, 1:a1/b1", "b2", "1:a1/b2, 1:a1/b1 b2", "2:a1/b2, 2:a1/b1 b2"},
		{"a x then b y then c z within 5", "0:a1//", "b2", "1:a1/b2/", ""},
		{"a x then not c n then b y? within 5", "0:a1//", "b2", "", "2:a1//b2"},
		// Some.
		{"a x+ then a y within 5", "0:a1/", "a2", "0:a1 a2/, 0:a2/", ""},
		{"a x then b y? then b z? within 5", "0:a1//", "b2", "1:a1/b2/", "2:a1/b2/"},
		{"a x then b y? then b z? then b w where y.v = 1 and z.v = 2 and w.v < 3 within 5", "0:a1///", "b2.2", "2:a1//b2.2/", ""},
		{"a x then b y? then b z? then b w where y.v = 1 and z.v = 2 and w.v < 3 within 5", "0:a1///", "b2.3", "", ""},
		// What the query does not look at breaks nothing.
		{"a x then b y within 5", "0:a1/", "c2", "0:a1/", ""},
		{"a x then b y within 5", "0:a1/", "d2", "0:a1/", ""},
		// Time first, then each run, then what begins.
		{"a x+ then not c n then b y? within 2", "0:a4//, 0:a1//, 2:a1//b2, 0:a2//, 0:a3//", "a5", "0:a4 a5//, 0:a3 a5//, 0:a5//", "3:a1//, 4:a2//"},
		{"a x then not c n then b y? within 2", "0:a4//, 0:a1//, 2:a3//b4, 0:a3//, 0:a2//", "a5", "0:a4//, 0:a3//, 0:a5//", "3:a1//, 4:a2//"},
	} {
		c.picked(t, "strict")
	}
}

// P13.1: M3, all that an event says is bound, and nothing of a run is lost.
func TestWhole(t *testing.T) {
	full := func(ts, seq int64, name string) api.Event {
		return api.Event{Ts: ts, Depth: 2, Seq: seq, Name: name, Vals: []api.Val{{Kind: api.Int, N: -ts}, {Kind: api.Text, S: "a b"}, {Kind: api.Bool, N: 1}}}
	}
	q := parsed(t, "seq a x+ then b y? then a z within 5")
	l := []api.Run{{At: 0, Bound: [][]api.Event{{full(1, 7, "a"), full(2, 8, "q")}, nil, {full(3, 9, "b")}}}}
	on, found := steps(t, world(), q, l, full(4, most, "a"))
	if len(on) != 3 || len(found) != 1 || len(on[1].Bound[0]) != 3 || len(found[0].Bound[2]) != 2 {
		t.Fatal(on, found)
	}
	on, found = steps(t, nil, q, on, full(5, 0, "b"))
	if len(on) != 6 || len(found) != 0 {
		t.Fatal(on, found)
	}
}

// wrongEvents are not right, each for one thing; of a, but for one.
func wrongEvents() []api.Event {
	var l []api.Event
	for _, n := range []int64{math.MinInt64, -1, most + 1, math.MaxInt64} {
		l = append(l, api.Event{Ts: n, Name: "a"}, api.Event{Ts: 9, Seq: n, Name: "a"})
	}
	for _, n := range []int{math.MinInt, -1, 4, math.MaxInt} {
		l = append(l, api.Event{Ts: 9, Depth: n, Name: "a"})
	}
	for _, v := range []api.Val{{}, {Kind: 4}, {Kind: -1}, {Kind: api.Int, N: most + 1}, {Kind: api.Int, N: -most - 1}, {Kind: api.Int, S: "a"}, {Kind: api.Text, N: 1}, {Kind: api.Text, S: strings.Repeat("a", 65)}, {Kind: api.Bool, N: 2}, {Kind: api.Bool, N: -1}, {Kind: api.Bool, S: "a"}} {
		l = append(l, api.Event{Ts: 9, Name: "a", Vals: []api.Val{v}}, api.Event{Ts: 9, Name: "a", Vals: []api.Val{{Kind: api.Int}, v}})
	}
	for _, n := range []string{"", "A", "a ", "_a", "1", "\xff", strings.Repeat("a", 17)} {
		l = append(l, api.Event{Ts: 9, Name: n})
	}
	nine := make([]api.Val, 9)
	for i := range nine {
		nine[i] = api.Val{Kind: api.Int}
	}
	return append(l, api.Event{Ts: 9, Name: "a", Vals: nine})
}

// P13.1: M3, of an event that is not right there is what Time of -1 is, though it would fit.
func TestStepOfWrong(t *testing.T) {
	const there = "0:a1//, 1:a1//, 0:a0//, 0:a1, 2:a3//b3, -1:a1//, 0:///, 0:a1099511627776//"
	const want = "0:a1//, 0:a0//, 2:a3//b3, 0:a1099511627776//"
	for _, pick := range []string{"any", "next", "strict"} {
		q := parsed(t, "seq a x then not a or b n then a y? within 2 pick "+pick)
		for i, e := range wrongEvents() {
			on, found := steps(t, world(), q, runs(there), e)
			if toldRuns(on) != want || len(found) > 0 {
				t.Errorf("%d: %s and %s", i, toldRuns(on), toldMatches(found))
			}
			some, more := run.Time(q, runs(there), -1)
			if toldRuns(some) != want || len(more) > 0 {
				t.Errorf("%d: %s and %s", i, toldRuns(some), toldMatches(more))
			}
			if on, found := run.Step(world(), q, nil, e); len(on)+len(found) > 0 {
				t.Errorf("%d: %s and %s", i, toldRuns(on), toldMatches(found))
			}
		}
		// The most that an event may be.
		on, _ := steps(t, world(), q, nil, api.Event{Ts: most, Depth: 3, Seq: most, Name: "a", Vals: slicesOf(8)})
		if len(on) != 1 {
			t.Error(on)
		}
	}
}

// slicesOf are so many right values.
func slicesOf(many int) []api.Val {
	var l []api.Val
	for range many {
		l = append(l, api.Val{Kind: api.Text, S: strings.Repeat("t", 64)})
	}
	return l
}

// P13.1: M3, of a query that is not right there is nothing, whatever the event is.
func TestStepOfWrongQuery(t *testing.T) {
	q, _, right := wrongAndRight(t)
	for i, w := range wrongQueries(q) {
		for _, e := range append(wrongEvents(), one("a9"), one("b2"), one("e9")) {
			if on, found := run.Step(world(), w, right, e); len(on)+len(found) > 0 {
				t.Errorf("%d: %s and %s", i, toldRuns(on), toldMatches(found))
			}
		}
	}
}

// P13.1: M3, schemas say which fields there are: without them nothing is asked.
func TestStepBySchemas(t *testing.T) {
	q := parsed(t, "seq a x then b y where x.v = 1 and y.v = x.v within 5")
	other := []api.Schema{{Name: "a", Fields: []api.Field{{Name: "w", Kind: api.Int}, {Name: "v", Kind: api.Int}}}, {Name: "b", Fields: []api.Field{{Name: "v", Kind: api.Int}}}}
	for i, c := range []struct {
		l         []api.Schema
		events    string
		on, found string
	}{
		{world(), "a1.1.2 b2.1.2", "0:a1.1.2/", "2:a1.1.2/b2.1.2"},
		{world(), "a1.2.1 b2.1.2", "", ""},
		{world(), "a1.1.2 b2.2.1", "0:a1.1.2/", ""},
		{other, "a1.1.2 b2.1.2", "", ""},
		{other, "a1.2.1 b2.1.2", "0:a1.2.1/", "2:a1.2.1/b2.1.2"},
		{nil, "a1.2.1 b2.5.5", "0:a1.2.1/", "2:a1.2.1/b2.5.5"},
		{[]api.Schema{}, "a1.2.1 b2.5.5", "0:a1.2.1/", "2:a1.2.1/b2.5.5"},
		{[]api.Schema{{}, {Name: "a"}, {Name: "b", Fields: []api.Field{{}, {Name: "v", Kind: 9}}}}, "a1.2.1 b2.5.5", "0:a1.2.1/", "2:a1.2.1/b2.5.5"},
	} {
		on, found := []api.Run(nil), []api.Match(nil)
		for _, e := range stream(c.events) {
			on, found = steps(t, c.l, q, on, e)
		}
		if toldRuns(on) != c.on || toldMatches(found) != c.found {
			t.Errorf("%d: %s and %s", i, toldRuns(on), toldMatches(found))
		}
	}
}

// P13.1: M3, of thrown queries, runs and events, against the sketch.
func TestThrownSteps(t *testing.T) {
	r := dice(134)
	many := map[int]int{}
	for range 20000 {
		q := r.query(6)
		e := r.event(int64(r.below(14)))
		if r.rarely(24) {
			e = wrongEvents()[r.below(len(wrongEvents()))]
		}
		l := world()
		if r.rarely(12) {
			l = l[:r.below(3)]
		}
		on, found := steps(t, l, q, r.runs(q, 5), e)
		if t.Failed() {
			t.FailNow()
		}
		many[q.Pick] += len(on)
		many[q.Pick+10] += len(found)
	}
	for _, pick := range []int{api.Any, api.Next, api.Strict} {
		if many[pick] < 3000 || many[pick+10] < 1000 {
			t.Error("too few", many)
		}
	}
}
