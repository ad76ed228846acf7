package ledger_test

import (
	"strconv"
	"strings"
	"testing"

	"augury/api"
)

// waves are events of a text: so many of a name, at one time, of one part, or of one of its own each (those from the named one on): `64*a1.7`, `64*a1.7..`; one alone without a star.
func waves(s string) []api.Event {
	var l []api.Event
	for _, w := range strings.Fields(s) {
		count, text, is := strings.Cut(w, "*")
		if !is {
			count, text = "1", w
		}
		text, own := strings.CutSuffix(text, "..")
		for n := range num(count) {
			e := one(text)
			if own {
				e.Vals[0].N += n
			}
			e.Seq = int64(len(l))
			l = append(l, e)
		}
	}
	return l
}

// dones are when matches were done, and how many at each time: `2 4*64`.
func dones(l []api.Match) string {
	var out []string
	for i := 0; i < len(l); {
		n := i
		for n < len(l) && l[n].Done == l[i].Done {
			n++
		}
		s := strconv.FormatInt(l[i].Done, 10)
		if n > i+1 {
			s += "*" + strconv.Itoa(n-i)
		}
		out = append(out, s)
		i = n
	}
	return strings.Join(out, " ")
}

// P14.1: N2, at most 64 runs go on, in all parts together, and since when more would.
func TestDegraded(t *testing.T) {
	for i, c := range []struct {
		query, events string
		want          string
		since         int64
	}{
		// 64 and 65 in one part, at one time, at more, and given in another order.
		{"a x then b y within 99 pick next", "64*a1 b2", "2*64", -1},
		{"a x then b y within 99 pick next", "65*a1 b2", "", 1},
		{"a x then b y within 99 pick next", "64*a1 a2 b3", "", 2},
		{"a x then b y within 99 pick next", "a2 b3 64*a1", "", 2},
		{"a x then b y within 99 pick next", "b4 a2 64*a3", "", 3},
		{"a x then b y within 99 pick next", "32*a1 32*a5 b9", "9*64", -1},
		{"a x then b y within 99 pick next", "32*a1 32*a5 a7 b9", "", 7},
		{"a x then b y within 99", "64*a1 b2 b3", "2*64 3*64", -1},
		{"a x then b y within 99", "64*a1 b2 b3 a3", "2*64", 3},
		{"a x then b y within 99 by id", "64*a1.7 b2.0.7", "2*64", -1},
		{"a x then b y within 99 by id", "65*a1.7 b2.0.7", "", 1},
		// 64 and 65 in all parts together.
		{"a x then not c n within 99 by id", "64*a1.7.. c100", "100*64", -1},
		{"a x then not c n within 99 by id", "65*a1.7..", "", 1},
		{"a x then b y within 99 by id", "32*a1.7 32*a1.8 b2.0.7", "2*32", -1},
		{"a x then b y within 99 by id", "32*a1.7 32*a1.8 a2.9 b3.0.7", "", 2},
		{"a x then b y within 99 by id", "b1.0.7 32*a2.7 32*a3.8 b4.0.8 a4.9 b5.0.7", "", 4},
		{"a x then b y within 99 by id", "b1.0.7 32*a2.7 32*a3.8 b4.0.8 a5.9 b6.0.7", "4*32", 5},
		{"a x then b y within 99 by id pick next", "32*a2.7 32*a3.8 b4.0.8 33*a5.9 b6.0.7", "4*32", 5},
		{"a x then b y within 99 by id pick next", "32*a2.7 32*a3.8 b4.0.8 32*a5.9 b6.0.7", "4*32 6*32", -1},
		// What is done at once does not go on; what goes on in many ways is many.
		{"a x within 99", "99*a1 a2", "1*99 2", -1},
		{"a x+ then b y within 99", "6*a1 b2", "2*63", -1},
		{"a x+ then b y within 99", "7*a1 b2", "", 1},
		{"a x+ then b y within 99", "6*a1 b2 a3", "2*63", 3},
		{"a x+ within 99", "a1 a2 a3 a4 a5 a6 a7 a8", "1 2*2 3*4 4*8 5*16 6*32", 7},
		{"a x then b y+ then c z within 99", "a1 5*b2 2*b3 c4", "", 3},
		{"a x then b y+ then c z within 99", "a1 6*b2 c4", "4*63", -1},
		{"a x then a y? then a z? then b w within 99", "3*a1 b2", "2*10", -1},
		{"a x then b y? then b z? then b w? within 99", "40*a1 b2", "1*40", 2},
		// What is gone goes on no more: by what is picked, by what must not come.
		{"a x then b y within 99 pick next", "64*a1 b2 64*a3 b4 a5", "2*64 4*64", -1},
		{"a x then b y within 99 pick strict", "99*a1 b2", "2", -1},
		{"a x then not c n then b y within 99", "64*a1 c2 64*a3 b4", "4*64", -1},
		{"a x then not c n then b y within 99", "64*a1 c2 64*a3 b4 a5", "4*64", 5},
		// Nor what is over a time ahead of that of an event, in its part, and in all others.
		{"a x then b y within 3", "64*a1 b2 64*a5", "2*64", -1},
		{"a x then b y within 3", "64*a1 b2 a4", "2*64", 4},
		{"a x then b y within 3 by id", "64*a1.7 a5.8 b6.0.8", "6", -1},
		{"a x then b y within 3 by id", "64*a1.7 a4.8 b6.0.8", "", 4},
		{"a x then b y within 3 by id", "64*a1.7.. 64*a5.99 b6.0.8", "", -1},
		{"a x then b y within 3 by id", "32*a1.7 32*a2.8 32*a5.9 b6.0.9", "6*32", -1},
		{"a x then b y within 3 by id", "32*a1.7 32*a2.8 33*a5.9 b6.0.9", "", 5},
		{"a x then b y within 0 by id", "64*a0.7.. 64*a1.7.. 64*a2.7..", "", -1},
		{"a x then b y within 0 by id", "64*a0.7.. 64*a1.7.. 65*a2.7..", "", 2},
		// An event of no part, one that the query does not look at, one that begins nothing: none is a run.
		{"a x then b y within 99 by id", "64*a1.7 9*a1 9*b1 9*c1.7 9*d1 9*e1.7 b2.0.7 9*b2.0.8", "2*64", -1},
		{"a x then b y where x.v > 3 within 99", "64*a1.0.4 9*a1.0.3 b2.7", "2*64", -1},
		{"a x then b y where x.v > 3 within 99", "64*a1.0.4 9*a1.0.3 a1 b2.7", "", 1},
		// What was found stays, if it was done below that time: not what was done at it, by time or event, nor above it.
		{"a x+ within 99 pick next", "62*a1 a2 a3 a4 a5", "1*1953 2*63 3*64", 4},
		{"a x+ within 99 pick next", "62*a1 a2 a3 a3 a5", "1*1953 2*63", 3},
		{"a x+ within 99 pick next", "62*a1 a3 a2 a5 a3", "1*1953 2*63", 3},
		{"a x then b y within 99 by id", "a1.7 b2.0.7 b3.0.7 63*a3.8 b3.0.7 a3.9 b4.0.7", "2", 3},
		{"a x then b y within 99 by id", "a1.7 b2.0.7 b3.0.7 63*a3.8 b3.0.7 a4.9 b4.0.7", "2 3*2", 4},
		{"a x then not c n within 3 by id", "a1.7 65*a5.8..", "4", 5},
		{"a x then not c n within 3 by id", "a1.7 64*a4.8..", "", 4},
		{"a x then not c n within 3 by id", "a1.7 63*a4.8.. a5.7", "4 7*63 8", -1},
		{"a x then not c n within 3 by id", "a1.7 a2.7 65*a5.8..", "4", 5},
		{"a x then not c n within 3 by id", "a1.7 a2.7 64*a5.8..", "4", 5},
		{"a x then not c n within 3 by id", "a1.7 a2.7 63*a5.8.. a6.7", "4 5 8*63 9", -1},
		{"a x then not c n within 3 by id", "a1.7 a2.7 63*a5.8.. 2*a6.7", "4 5", 6},
		{"a x then not c n then b y? within 3", "64*a1 b2 b4 b5 a5", "2*64 4*128 8", -1},
	} {
		q := parsed(t, "seq "+c.query)
		got, since := book(t, world(), q, waves(c.events), 200)
		if dones(got) != c.want || since != c.since {
			t.Errorf("%d: %s since %d", i, dones(got), since)
		}
	}
}
