package event_test

import (
	"math"
	"slices"
	"testing"

	"augury/api"
	"augury/event"
)

// less is E4 by its words.
func less(a, b api.Event) bool {
	switch {
	case a.Ts < b.Ts:
		return true
	case a.Ts == b.Ts && a.Depth < b.Depth:
		return true
	}
	return a.Ts == b.Ts && a.Depth == b.Depth && a.Seq < b.Seq
}

// ordered are events whose times, depths and numbers are all that are some, with one another.
func ordered(times []int64, depths []int, seqs []int64) []api.Event {
	var l []api.Event
	for _, ts := range times {
		for _, depth := range depths {
			for _, seq := range seqs {
				l = append(l, api.Event{Ts: ts, Depth: depth, Seq: seq, Name: "a"})
			}
		}
	}
	return l
}

// all are events that are right, at the bounds too.
func all() []api.Event {
	l := []int64{0, 1, 2, 127, 128, 1 << 32, most - 1, most}
	return ordered(l, []int{0, 1, 2, 3}, l)
}

// far are events that are not, as far from one another as numbers are.
func far() []api.Event {
	l := []int64{math.MinInt64, math.MinInt64 + 1, -1 << 62, -1<<53 - 1, -1 << 53, -most, -1, 0, 1, most + 1, 1 << 53, 1<<53 + 1, 1<<53 + 2, math.MaxInt64 - 1, math.MaxInt64}
	return ordered(l, []int{math.MinInt, math.MinInt + 1, -1, 0, 4, 1<<53 + 1, 1 << 53, math.MaxInt - 1, math.MaxInt}, l)
}

// P5.1, E4: which event is ahead of another one, whether or not they are right.
func TestLess(t *testing.T) {
	for _, l := range [][]api.Event{all(), far()} {
		for _, a := range l {
			for _, b := range l {
				if event.Less(a, b) != less(a, b) {
					t.Fatalf("%v and %v", a, b)
				}
			}
		}
	}
}

// P5.1, E4: some pairs, of one time, of one time and depth, and alike.
func TestLessSome(t *testing.T) {
	for i, c := range []struct {
		a, b api.Event
		want bool
	}{
		{api.Event{Ts: 3, Depth: 1}, api.Event{Ts: 3}, false}, {api.Event{Ts: 3}, api.Event{Ts: 3, Depth: 1}, true},
		{api.Event{Ts: 1, Depth: 3, Seq: 9}, api.Event{Ts: 2}, true}, {api.Event{Ts: 2}, api.Event{Ts: 1, Depth: 3, Seq: 9}, false},
		{api.Event{Depth: 1, Seq: most}, api.Event{Depth: 2}, true}, {api.Event{Depth: 2}, api.Event{Depth: 1, Seq: most}, false},
		{api.Event{Ts: 4, Depth: 2, Seq: 1}, api.Event{Ts: 4, Depth: 2, Seq: 2}, true}, {api.Event{Ts: 4, Depth: 2, Seq: 2}, api.Event{Ts: 4, Depth: 2, Seq: 1}, false},
		{base(), base(), false}, {api.Event{}, api.Event{}, false}, {api.Event{Seq: most - 1}, api.Event{Seq: most}, true}, {api.Event{Ts: most - 1, Seq: most}, api.Event{Ts: most}, true},
	} {
		if event.Less(c.a, c.b) != c.want {
			t.Error(i)
		}
	}
}

// P5.1, E4: names and values are not looked at.
func TestLessNames(t *testing.T) {
	a, b := base(), but(func(e *api.Event) { e.Name, e.Vals = "b", vals(1) })
	if event.Less(a, b) || event.Less(b, a) {
		t.Error("of one time, depth and number neither is ahead")
	}
	b.Seq--
	if event.Less(a, b) || !event.Less(b, a) {
		t.Error("the number tells")
	}
}

// P5.3: no event is ahead of itself, nor are two of one another; of two that
// are apart one is.
func TestOrderPairs(t *testing.T) {
	for _, l := range [][]api.Event{all(), far()} {
		for i, a := range l {
			if event.Less(a, a) {
				t.Fatalf("%v is ahead of itself", a)
			}
			for _, b := range l[:i] {
				if event.Less(a, b) == event.Less(b, a) {
					t.Fatalf("%v and %v", a, b)
				}
			}
		}
	}
}

// P5.3: what is ahead of what is ahead is ahead.
func TestOrderTriples(t *testing.T) {
	few := ordered([]int64{0, 1, 2, most - 1, most}, []int{0, 1, 3}, []int64{0, 1, most - 1, most})
	wide := ordered([]int64{math.MinInt64, -1, 0, math.MaxInt64 - 1, math.MaxInt64}, []int{math.MinInt, 0, math.MaxInt}, []int64{math.MinInt64, -1, 0, math.MaxInt64})
	for _, l := range [][]api.Event{few, wide} {
		for _, a := range l {
			for _, b := range l {
				for _, c := range l {
					if event.Less(a, b) && event.Less(b, c) && !event.Less(a, c) {
						t.Fatalf("%v, %v and %v", a, b, c)
					}
				}
			}
		}
	}
}

// P5.3: events have one order, however they stand at first.
func TestOrderSorts(t *testing.T) {
	want := all()
	compare := func(a, b api.Event) int {
		switch {
		case event.Less(a, b):
			return -1
		case event.Less(b, a):
			return 1
		}
		return 0
	}
	for step := range 20 {
		// The count of events is a power of 2, so that odd steps come to all of them.
		var l []api.Event
		for i := range want {
			l = append(l, want[i*(2*step+1)%len(want)])
		}
		slices.SortFunc(l, compare)
		if !slices.EqualFunc(l, want, sameEvent) {
			t.Error(step)
		}
	}
}
