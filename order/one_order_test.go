package order_test

import (
	"cmp"
	"slices"
	"testing"

	"augury/api"
	"augury/event"
	"augury/order"
)

// compare is the order of two by layer 5's words.
func compare(a, b api.Event) int {
	return cmp.Or(cmp.Compare(a.Ts, b.Ts), cmp.Compare(a.Depth, b.Depth), cmp.Compare(a.Seq, b.Seq))
}

// sketch is a buffer as the document tells it: what waits stands as it came.
type sketch struct {
	time int64
	wait []api.Event
}

func (s *sketch) put(e api.Event) api.Errno {
	there := func(w api.Event) bool { return w.Ts == e.Ts && w.Depth == e.Depth && w.Seq == e.Seq }
	switch {
	case len(event.Put(e)) == 0:
		return api.ErrArg
	case e.Ts <= s.time:
		return api.ErrLate
	case slices.ContainsFunc(s.wait, there):
		return api.ErrThere
	case len(s.wait) == 256:
		return api.ErrTooMany
	}
	s.wait = append(s.wait, e)
	return api.OK
}

func (s *sketch) advance(time int64) ([]api.Event, api.Errno) {
	switch {
	case time < 0 || time > most:
		return nil, api.ErrArg
	case time < s.time:
		return nil, api.ErrLate
	}
	var gone, stay []api.Event
	for _, w := range s.wait {
		if w.Ts <= time {
			gone = append(gone, w)
		} else {
			stay = append(stay, w)
		}
	}
	s.time, s.wait = time, stay
	return slices.SortedFunc(slices.Values(gone), compare), api.OK
}

func (s *sketch) waiting() []api.Event { return slices.SortedFunc(slices.Values(s.wait), compare) }

// each tells all orders in which these may come.
func each(l []api.Event, tell func(l []api.Event)) {
	var from func(i int)
	from = func(i int) {
		if i == len(l) {
			tell(l)
		}
		for k := i; k < len(l); k++ {
			l[i], l[k] = l[k], l[i]
			from(i + 1)
			l[i], l[k] = l[k], l[i]
		}
	}
	from(0)
}

// P6.2: in whichever order events come, and whatever the times between, they go in one.
func TestOneOrder(t *testing.T) {
	for _, want := range [][]api.Event{
		{at(1), at(2), at(3), at(4), at(5), at(6)},
		{of(4, 0, 0), of(4, 0, 1), of(4, 0, 2), of(4, 0, 9), of(4, 0, 128), of(4, 0, most)},
		{of(4, 0, 5), of(4, 1, 4), of(4, 2, 3), of(4, 2, 6), of(4, 3, 1), of(4, 3, 2)},
		{of(1, 3, 9), of(2, 0, 9), of(2, 1, 0), of(2, 1, 1), of(3, 0, 0), of(3, 0, 1)},
		{of(0, 3, most), of(1, 2, 5), of(1, 2, 6), of(5, 0, 7), of(most-1, 1, 1), of(most, 0, 0)},
	} {
		each(slices.Clone(want), func(l []api.Event) {
			holds(t, with(t, -1, l...), -1, want...)
			for _, times := range [][]int64{{most}, {0, 1, 2, 3, 4, 5, 6, most}, {2, most}, {1, 1, 3, most}, {4, most}, {3, 5, most - 1, most, most}} {
				b := with(t, -1, l...)
				var gone []api.Event
				for _, time := range times {
					some, _ := b.Advance(time)
					gone = append(gone, some...)
				}
				if !all(gone, want) {
					t.Fatalf("%v, with times %d, go as %v", l, times, gone)
				}
				holds(t, b, most)
			}
		})
	}
}

// dice are numbers that look like chance, from a start on.
func dice(start uint64) func(n int) int {
	s := start
	return func(n int) int {
		s = s*6364136223846793005 + 1442695040888963407
		return int(s >> 33 % uint64(n))
	}
}

// step does one thing that dice choose on both, and fails the test unless both
// answer alike; what was taken, and what went, is told.
func step(t *testing.T, roll func(int) int, b *order.Buffer, s *sketch, spread int) (taken, gone []api.Event) {
	t.Helper()
	if roll(spread) == 0 {
		time := s.time + int64(roll(9)) - 2
		l, got := b.Advance(time)
		m, want := s.advance(time)
		if got != want || !all(l, m) {
			t.Fatalf("at %d: %v %d, want %v %d", time, l, got, m, want)
		}
		return nil, l
	}
	e := of(s.time+int64(roll(12))-2, roll(4), int64(roll(9)))
	if roll(20) == 0 {
		e.Depth += roll(9) - 4
	}
	got, want := b.Put(e), s.put(e)
	if got != want {
		t.Fatalf("%v at %d: got %d, want %d", e, s.time, got, want)
	}
	if got == api.OK {
		taken = append(taken, e)
	}
	return taken, nil
}

// P6.1 and P6.2: whatever comes between, all is as the document tells it; all
// that was taken goes, once, and no event goes behind one that it is ahead of.
func TestScripts(t *testing.T) {
	for start := range 80 {
		roll := dice(uint64(start))
		spread := []int{2, 5, 30, 400}[start%4]
		b, s := order.New(), &sketch{time: -1}
		var taken, gone []api.Event
		for range 600 {
			some, went := step(t, roll, b, s, spread)
			taken, gone = append(taken, some...), append(gone, went...)
			holds(t, b, s.time, s.waiting()...)
		}
		rest, got := b.Advance(most)
		gone = append(gone, rest...)
		if got != api.OK || !all(gone, slices.SortedFunc(slices.Values(taken), compare)) {
			t.Fatal(start, got, len(gone), len(taken))
		}
		for i := range len(gone) - 1 {
			if !event.Less(gone[i], gone[i+1]) {
				t.Fatal(start, gone[i], gone[i+1])
			}
		}
		holds(t, b, most)
	}
}

// P6.2: as many events as may wait, that come in many orders.
func TestOneOrderFull(t *testing.T) {
	want := full(1)
	for odd := 1; odd < 256; odd += 2 {
		// The count of events is a power of 2, so that odd steps come to all of them.
		var l []api.Event
		for i := range want {
			l = append(l, want[i*odd%len(want)])
		}
		b := with(t, 0, l...)
		holds(t, b, 0, want...)
		goes(t, b, 2, want[:128]...)
		goes(t, b, 4, want[128:]...)
	}
}
