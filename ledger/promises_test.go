package ledger_test

import (
	"fmt"
	"slices"
	"testing"

	"augury/api"
	"augury/ledger"
	"augury/tree"
)

// thrown are a query and events of which of any two one is ahead, now and then such that it is degraded.
func (r *dice) thrown() (api.Query, []api.Event) {
	q := r.query(4)
	many := r.below(18)
	if r.rarely(4) {
		many += 25
	}
	return q, r.row(many, 1+r.below(16))
}

// alikeBooks tells whether two books are the same, event by event.
func alikeBooks(a []api.Match, since int64, b []api.Match, otherSince int64) bool {
	return since == otherSince && len(a) == len(b) && told(a) == told(b) && fmt.Sprint(a) == fmt.Sprint(b)
}

// P14.2: the order in which events are given changes nothing, if of no two neither is ahead.
func TestOneBook(t *testing.T) {
	r := dice(146)
	matches, degraded := 0, 0
	for range 2000 {
		q, l := r.thrown()
		time := int64(r.below(30))
		want, since := ledger.Book(world(), q, l, time)
		orders := [][]api.Event{r.mixed(l), r.mixed(l), slices.Clone(l), put(l, func(a, b api.Event) bool { return a.Ts < b.Ts }), put(l, func(a, b api.Event) bool { return a.Name < b.Name })}
		slices.Reverse(orders[2])
		for _, other := range orders {
			if got, s := ledger.Book(world(), q, other, time); !alikeBooks(got, s, want, since) {
				t.Fatalf("%s: %v up to %d\n%s since %d is not\n%s since %d", tree.Print(q), other, time, told(got), s, told(want), since)
			}
		}
		matches += len(want)
		if since >= 0 {
			degraded++
		}
	}
	if matches < 3000 || degraded < 40 {
		t.Error("too few", matches, degraded)
	}
}

// P14.2: each order of a few events.
func TestAllOrders(t *testing.T) {
	for _, text := range []string{"a x then b y within 3 by id", "a x+ then not c n then b y? within 2", "a or b x then a y? within 2 pick strict", "a x then not c n within 1 by id pick next"} {
		q := parsed(t, "seq "+text)
		l := events("a1.1 b1#1.0.1 a2.2 b2^1.0.2 c2#1.1 a3.1")
		want, since := ledger.Book(world(), q, l, 9)
		if len(want) == 0 || since != -1 {
			t.Error(text)
		}
		var each func(n int)
		each = func(n int) {
			if n == len(l) {
				if got, s := ledger.Book(world(), q, l, 9); !alikeBooks(got, s, want, since) {
					t.Fatalf("%s: %v: %s", text, l, told(got))
				}
			}
			for i := n; i < len(l); i++ {
				l[n], l[i] = l[i], l[n]
				each(n + 1)
				l[n], l[i] = l[i], l[n]
			}
		}
		each(0)
	}
}

// P14.2: events that the query does not look at change nothing, many as they may be, wherever and whenever they come.
func TestNotLookedAt(t *testing.T) {
	r := dice(147)
	more, matches, degraded := 0, 0, 0
	for range 3000 {
		q, l := r.thrown()
		time := int64(r.below(30))
		want, since := ledger.Book(world(), q, l, time)
		all := slices.Clone(l)
		for range r.below(40) {
			e := r.event(int64(r.below(20)))
			e.Seq = int64(r.below(50))
			looked := slices.ContainsFunc(q.Items, func(it api.Item) bool { return slices.Contains(it.Names, e.Name) })
			if !looked {
				all, more = append(all, e), more+1
			}
		}
		if got, s := ledger.Book(world(), q, r.mixed(all), time); !alikeBooks(got, s, want, since) {
			t.Fatalf("%s: %v up to %d\n%s since %d is not\n%s since %d", tree.Print(q), all, time, told(got), s, told(want), since)
		}
		matches += len(want)
		if since >= 0 {
			degraded++
		}
	}
	if more < 10000 || matches < 3000 || degraded < 40 {
		t.Error("too few", more, matches, degraded)
	}
	// Also of one time, and strictly, and where runs are over.
	for _, text := range []string{"a x then b y within 9 pick strict", "a x then not c n within 2 by id", "a x then a y within 0"} {
		q := parsed(t, "seq "+text)
		l := events("a1.7 a1#2.7 b3.7.7 b3#2.7.7")
		want, since := ledger.Book(world(), q, l, 9)
		if got, s := ledger.Book(world(), q, append(events("d1 e1#1.7 d1#2 d2.7 e3#1 d4 d9"), l...), 9); !alikeBooks(got, s, want, since) {
			t.Errorf("%s: %s since %d", text, told(got), s)
		}
	}
}

// partsOf are events by the parts of a query.
func partsOf(q api.Query, l []api.Event) map[api.Val][]api.Event {
	parts := map[api.Val][]api.Event{}
	for _, e := range l {
		if v, is := ledger.Part(world(), q, e); is {
			parts[v] = append(parts[v], e)
		}
	}
	return parts
}

// P14.3: a book is those of its parts, together. (A part's own is degraded no sooner than that of all, and has all that is in it.)
func TestParts(t *testing.T) {
	r := dice(148)
	many, apart, degraded := 0, 0, 0
	for range 4000 {
		q, l := r.thrown()
		if q.By == "" {
			q.By = "id"
		}
		time := int64(r.below(30))
		got, since := ledger.Book(world(), q, l, time)
		var together []api.Match
		for v, own := range partsOf(q, l) {
			m, s := ledger.Book(world(), q, own, time)
			if s >= 0 && (since < 0 || s < since) {
				t.Fatalf("%s: %v of %v: since %d", tree.Print(q), v, l, s)
			}
			together = append(together, m...)
			if len(m) > 0 {
				apart++
			}
		}
		if since >= 0 {
			degraded++
			together = slices.DeleteFunc(together, func(m api.Match) bool { return m.Done >= since })
		}
		slices.SortFunc(together, func(a, b api.Match) int {
			if ledger.Less(a, b) {
				return -1
			}
			return 1
		})
		if !alikeBooks(got, -1, together, -1) {
			t.Fatalf("%s: %v up to %d\n%s is not\n%s", tree.Print(q), l, time, told(got), told(together))
		}
		if len(together) > 0 {
			many++
		}
	}
	if many < 700 || apart < many+300 || degraded < 40 {
		t.Error("too few", many, apart, degraded)
	}
}

// P14.3: of each part there is just what it is alone: its own Strict, its own Not, its own time.
func TestPartAlone(t *testing.T) {
	for _, text := range []string{"a x then b y within 5 by id pick strict", "a x then not c n then b y? within 3 by id", "a x+ then b y within 4 by id pick next", "a x then not b n within 2 by id"} {
		q := parsed(t, "seq "+text)
		var all []api.Event
		var want []api.Match
		for part := range 5 {
			var own []api.Event
			for i, s := range []string{"a1", "a3", "c4", "a5", "b6", "a8", "b9"} {
				if (i+part)%5 == 0 {
					continue
				}
				e := one(s)
				e.Seq = int64(part)
				e.Vals = slices.Repeat([]api.Val{{Kind: api.Int, N: int64(9 - part)}}, 2)
				own = append(own, e)
			}
			m, _ := ledger.Book(world(), q, own, 30)
			all, want = append(all, own...), append(want, m...)
		}
		got, since := ledger.Book(world(), q, all, 30)
		if want = put(want, ledger.Less); len(want) < 5 || !alikeBooks(got, since, want, -1) {
			t.Errorf("%s: %s since %d is not %s", text, told(got), since, told(want))
		}
	}
}

// P14.4: with a later time, and later events, a book has all that it had, as it stood, and what is new is done later.
func TestGrows(t *testing.T) {
	r := dice(149)
	grown, stayed, degraded := 0, 0, 0
	for range 3000 {
		q, l := r.thrown()
		first := int64(r.below(14))
		last := first + int64(r.below(14))
		var early []api.Event
		for _, e := range l {
			if e.Ts <= first {
				early = append(early, e)
			}
		}
		had, hadSince := ledger.Book(world(), q, early, first)
		got, since := ledger.Book(world(), q, l, last)
		if since >= 0 && (hadSince < 0 && since <= first || hadSince >= 0 && since != hadSince) || hadSince >= 0 && since < 0 {
			t.Fatalf("%s: %v: since %d, then since %d", tree.Print(q), l, hadSince, since)
		}
		if len(ledger.Minus(had, got)) > 0 || !alikeBooks(got[:len(had)], -1, had, -1) {
			t.Fatalf("%s: %v up to %d and %d\n%s has not\n%s", tree.Print(q), l, first, last, told(got), told(had))
		}
		for _, m := range got[len(had):] {
			if m.Done <= first {
				t.Fatalf("%s: %v up to %d and %d\n%s and\n%s", tree.Print(q), l, first, last, told(had), told(got))
			}
			grown++
		}
		stayed += len(had)
		if since >= 0 {
			degraded++
		}
	}
	if min(grown, stayed) < 1500 || degraded < 50 {
		t.Error("too few", grown, stayed, degraded)
	}
}

// P14.4: time by time, and event by event.
func TestGrowsOnAndOn(t *testing.T) {
	for _, text := range []string{"a x then b y? then not c n within 3", "a x+ then b y within 5 by id", "a x then not c n then b y? within 2 by id pick next", "a or b x then a or b y within 4 pick strict"} {
		q := parsed(t, "seq "+text)
		l := events("a1.7 a1#1.8 b2.0.7 a3.7 c4.8 b4#1.0.8 b4#2.0.7 a6.8 b9.0.8 a9#1.7 c11.7")
		var had []api.Match
		var come []api.Event
		for time := int64(0); time < 20; time++ {
			for _, e := range l {
				if e.Ts == time {
					come = append(come, e)
				}
			}
			got, since := ledger.Book(world(), q, come, time)
			if since != -1 || len(ledger.Minus(had, got)) > 0 {
				t.Errorf("%s: %d: %s is not there of %s", text, time, told(ledger.Minus(had, got)), told(had))
			}
			if whole, s := ledger.Book(world(), q, l, time); !alikeBooks(whole, s, got, since) {
				t.Errorf("%s: %d: %s is not %s", text, time, told(whole), told(got))
			}
			had = got
		}
		if len(had) < 2 {
			t.Errorf("%s: %s", text, told(had))
		}
	}
}
