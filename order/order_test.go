package order_test

import (
	"math"
	"slices"
	"strconv"
	"testing"

	"augury/api"
	"augury/order"
)

const most = 1 << 40

// of is an event of a name of its own, and of values that tell when, how deep, and which it is.
func of(ts int64, depth int, seq int64) api.Event {
	return api.Event{Ts: ts, Depth: depth, Seq: seq, Name: "e", Vals: []api.Val{{Kind: api.Int, N: ts}, {Kind: api.Text, S: strconv.Itoa(depth) + "/" + strconv.FormatInt(seq, 10)}}}
}

// at is one of a time, of which all else is 0.
func at(ts int64) api.Event { return of(ts, 0, 0) }

// same tells whether both are alike.
func same(a, b api.Event) bool {
	return a.Ts == b.Ts && a.Depth == b.Depth && a.Seq == b.Seq && a.Name == b.Name && slices.Equal(a.Vals, b.Vals)
}

// all tells whether all are alike, in their order.
func all(a, b []api.Event) bool { return slices.EqualFunc(a, b, same) }

// put has all of these wait; each must be taken.
func put(t *testing.T, b *order.Buffer, l ...api.Event) {
	t.Helper()
	for _, e := range l {
		if got := b.Put(e); got != api.OK {
			t.Fatalf("%v is not taken: %d", e, got)
		}
	}
}

// with is a buffer at a time (but for -1), in which these wait.
func with(t *testing.T, time int64, l ...api.Event) *order.Buffer {
	t.Helper()
	b := order.New()
	if time >= 0 {
		goes(t, b, time)
	}
	put(t, b, l...)
	return b
}

// goes has a time come, at which just these must go.
func goes(t *testing.T, b *order.Buffer, time int64, want ...api.Event) {
	t.Helper()
	if l, got := b.Advance(time); got != api.OK || !all(l, want) {
		t.Fatalf("at %d: %v %d, want %v", time, l, got, want)
	}
	if b.Time() != time {
		t.Fatalf("the time is %d, want %d", b.Time(), time)
	}
}

// holds fails the test unless this is the time, and just these wait.
func holds(t *testing.T, b *order.Buffer, time int64, want ...api.Event) {
	t.Helper()
	if b.Time() != time || !all(b.Waiting(), want) {
		t.Fatalf("at %d %v wait, want %d %v", b.Time(), b.Waiting(), time, want)
	}
}

// P6.1, F1 and F3: at first no time has come, and nothing waits.
func TestNew(t *testing.T) {
	holds(t, order.New(), -1)
}

// P6.1: the document's example.
func TestExample(t *testing.T) {
	b := with(t, -1, at(3), at(1))
	goes(t, b, 2, at(1))
	holds(t, b, 2, at(3))
}

// P6.1, F1: an event is taken if its Ts is above the time, at the bounds too.
func TestPutTime(t *testing.T) {
	for _, c := range []struct {
		time, ts int64
		want     api.Errno
	}{
		{-1, 0, api.OK}, {-1, 1, api.OK}, {-1, most, api.OK}, {-1, -1, api.ErrArg}, {-1, most + 1, api.ErrArg},
		{0, 0, api.ErrLate}, {0, 1, api.OK}, {0, most, api.OK}, {0, -1, api.ErrArg},
		{1, 0, api.ErrLate}, {1, 1, api.ErrLate}, {1, 2, api.OK},
		{7, 6, api.ErrLate}, {7, 7, api.ErrLate}, {7, 8, api.OK}, {7, 0, api.ErrLate},
		{1 << 32, 1<<32 - 1, api.ErrLate}, {1 << 32, 1 << 32, api.ErrLate}, {1 << 32, 1<<32 + 1, api.OK}, {1 << 32, 1, api.ErrLate},
		{most - 1, most - 2, api.ErrLate}, {most - 1, most - 1, api.ErrLate}, {most - 1, most, api.OK}, {most - 1, most + 1, api.ErrArg},
		{most, 0, api.ErrLate}, {most, most - 1, api.ErrLate}, {most, most, api.ErrLate}, {most, most + 1, api.ErrArg},
	} {
		for _, e := range []api.Event{at(c.ts), of(c.ts, 3, most)} {
			b := with(t, c.time)
			if got := b.Put(e); got != c.want {
				t.Errorf("%d at %d: got %d, want %d", c.ts, c.time, got, c.want)
			}
			if c.want == api.OK {
				holds(t, b, c.time, e)
			} else {
				holds(t, b, c.time)
			}
		}
	}
}

// P6.1, F1: an event that waits is known by its Ts, Depth and Seq, all three, and by no more.
func TestPutThere(t *testing.T) {
	e := of(5, 1, 7)
	for i, other := range []api.Event{
		e, {Ts: 5, Depth: 1, Seq: 7, Name: "e"}, {Ts: 5, Depth: 1, Seq: 7, Name: "another", Vals: e.Vals}, {Ts: 5, Depth: 1, Seq: 7, Name: "z", Vals: []api.Val{{Kind: api.Bool, N: 1}}},
	} {
		for _, rest := range [][]api.Event{nil, {of(4, 1, 7), of(5, 0, 7), of(5, 1, 6)}, {of(5, 1, 8), of(5, 2, 7), of(6, 1, 7)}, {of(4, 3, 9), of(5, 1, 8)}} {
			b := with(t, 3, append(rest, e)...)
			before := b.Waiting()
			if got := b.Put(other); got != api.ErrThere {
				t.Errorf("%d: %d", i, got)
			}
			holds(t, b, 3, before...)
		}
	}
	for _, other := range []api.Event{of(4, 1, 7), of(6, 1, 7), of(5, 0, 7), of(5, 2, 7), of(5, 1, 6), of(5, 1, 8), of(7, 1, 5), of(5, 3, 7), of(most, 1, 7)} {
		put(t, with(t, 3, e), other)
	}
}

// P6.1, F1: what has gone is late, and with a Ts above the time it may come again.
func TestPutAgain(t *testing.T) {
	e := of(5, 1, 7)
	b := with(t, -1, e)
	goes(t, b, 5, e)
	if got := b.Put(e); got != api.ErrLate {
		t.Error(got)
	}
	later := e
	later.Ts = 6
	put(t, b, later)
	holds(t, b, 5, later)
	if got := b.Put(later); got != api.ErrThere {
		t.Error(got)
	}
	goes(t, b, 6, later)
}

// full are as many events as may wait, of four times, the first of which is ts,
// of four depths, and of odd Seqs.
func full(ts int64) []api.Event {
	var l []api.Event
	for i := range 256 {
		l = append(l, of(ts+int64(i/64), i/16%4, int64(i%16*2+1)))
	}
	return l
}

// P6.1, F1: 256 events may wait, and no more, wherever one would stand.
func TestPutTooMany(t *testing.T) {
	l := full(5)
	b := with(t, 3, l[:255]...)
	holds(t, b, 3, l[:255]...)
	put(t, b, l[255])
	holds(t, b, 3, l...)
	for _, e := range []api.Event{at(4), at(5), of(5, 0, 2), of(6, 1, 4), of(8, 3, 32), of(8, 3, 33), of(9, 0, 0), at(most)} {
		if got := b.Put(e); got != api.ErrTooMany {
			t.Errorf("%v: %d", e, got)
		}
		holds(t, b, 3, l...)
	}
	goes(t, b, 5, l[:64]...)
	for i := range int64(64) {
		put(t, b, of(9, 0, i))
	}
	if got := b.Put(at(10)); got != api.ErrTooMany {
		t.Error(got)
	}
	goes(t, b, 8, l[64:]...)
	put(t, b, at(10))
	if n := len(b.Waiting()); n != 65 {
		t.Error(n)
	}
}

// P6.1, F1, and P2: of several errors that is told which the words name first.
func TestPutFirstError(t *testing.T) {
	e := of(5, 1, 7)
	wrong := func(ts int64) api.Event { return api.Event{Ts: ts, Depth: 1, Seq: 7} }
	few, many := []api.Event{e}, append(full(6)[:255], e)
	for i, c := range []struct {
		wait []api.Event
		e    api.Event
		want api.Errno
	}{
		{few, wrong(4), api.ErrArg},               // late too
		{few, wrong(5), api.ErrArg},               // there too
		{many, wrong(6), api.ErrArg},              // too many too
		{many, wrong(4), api.ErrArg},              // late, and too many
		{many, wrong(5), api.ErrArg},              // there, and too many
		{few, at(-1), api.ErrArg},                 // late, if it were right
		{many, of(most+1, 1, 7), api.ErrArg},      // too many, if it were right
		{many, at(4), api.ErrLate},                // too many too
		{many, e, api.ErrThere},                   // too many too
		{many, full(6)[0], api.ErrThere},          // too many too
		{many, full(6)[254], api.ErrThere},        // too many too
		{many, full(6)[255], api.ErrTooMany},      // the one that is not there
		{many, of(5, 1, 8), api.ErrTooMany},       // nothing else
		{many, of(most, 3, most), api.ErrTooMany}, // nothing else
	} {
		b := with(t, 4, c.wait...)
		before := b.Waiting()
		if got := b.Put(c.e); got != c.want {
			t.Errorf("%d: got %d, want %d", i, got, c.want)
		}
		holds(t, b, 4, before...)
	}
}

// P6.1, F2: which times may come, at the bounds too.
func TestAdvanceTimes(t *testing.T) {
	for _, c := range []struct {
		time, next int64
		want       api.Errno
	}{
		{-1, -1, api.ErrArg}, {-1, 0, api.OK}, {-1, 1, api.OK}, {-1, most, api.OK}, {-1, most + 1, api.ErrArg}, {-1, math.MinInt64, api.ErrArg}, {-1, math.MaxInt64, api.ErrArg},
		{0, -1, api.ErrArg}, {0, 0, api.OK}, {0, 1, api.OK}, {1, 0, api.ErrLate}, {1, 1, api.OK},
		{7, 6, api.ErrLate}, {7, 7, api.OK}, {7, 8, api.OK}, {7, 0, api.ErrLate}, {7, -1, api.ErrArg}, {7, -2, api.ErrArg}, {7, most, api.OK}, {7, most + 1, api.ErrArg},
		{1 << 32, 1, api.ErrLate}, {1 << 32, 1<<32 - 1, api.ErrLate}, {1 << 32, 1 << 32, api.OK}, {1 << 32, 1<<33 + 1, api.OK},
		{most - 1, most - 2, api.ErrLate}, {most - 1, most - 1, api.OK}, {most - 1, most, api.OK},
		{most, most - 1, api.ErrLate}, {most, 0, api.ErrLate}, {most, most, api.OK}, {most, most + 1, api.ErrArg}, {most, -1, api.ErrArg}, {most, math.MaxInt64, api.ErrArg}, {most, math.MinInt64, api.ErrArg},
	} {
		b := with(t, c.time)
		l, got := b.Advance(c.next)
		if got != c.want || len(l) != 0 {
			t.Errorf("%d behind %d: got %v %d, want %d", c.next, c.time, l, got, c.want)
		}
		if c.want == api.OK {
			holds(t, b, c.next)
		} else {
			holds(t, b, c.time)
		}
	}
}

// P6.1, F2: those go whose Ts is up to the time: none, some, and all.
func TestAdvanceGoes(t *testing.T) {
	l := []api.Event{at(3), of(3, 0, 1), of(3, 2, 0), at(4), of(6, 1, 1), at(most)}
	for _, c := range []struct {
		time int64
		many int
	}{{0, 0}, {1, 0}, {2, 0}, {3, 3}, {4, 4}, {5, 4}, {6, 5}, {7, 5}, {most - 1, 5}, {most, 6}} {
		b := with(t, -1, l...)
		goes(t, b, c.time, l[:c.many]...)
		holds(t, b, c.time, l[c.many:]...)
		goes(t, b, c.time)
		holds(t, b, c.time, l[c.many:]...)
		goes(t, b, most, l[c.many:]...)
		holds(t, b, most)
		goes(t, b, most)
	}
}

// P6.1, F2: the bounds of what may wait, and go.
func TestAdvanceBounds(t *testing.T) {
	l := []api.Event{of(0, 0, 0), of(0, 0, most), of(0, 3, 0), of(0, 3, most), of(most, 0, 0), of(most, 0, most), of(most, 3, 0), of(most, 3, most)}
	b := with(t, -1, l...)
	goes(t, b, 0, l[:4]...)
	goes(t, b, most-1)
	holds(t, b, most-1, l[4:]...)
	goes(t, b, most, l[4:]...)
	holds(t, b, most)
	full := full(0)
	goes(t, with(t, -1, full...), most, full...)
}

// P6.1, F3: Waiting and Time tell of what they do not change.
func TestWaiting(t *testing.T) {
	b := with(t, 2, of(9, 0, 1), of(4, 2, 2), at(4), of(9, 0, 0))
	for range 3 {
		holds(t, b, 2, at(4), of(4, 2, 2), of(9, 0, 0), of(9, 0, 1))
	}
	goes(t, b, 4, at(4), of(4, 2, 2))
	for range 3 {
		holds(t, b, 4, of(9, 0, 0), of(9, 0, 1))
	}
}

// P6.1: events of all values, and of none, go as they came.
func TestValues(t *testing.T) {
	l := []api.Event{
		{Ts: 1, Name: "a"}, {Ts: 2, Name: "abcdefghijklmnop", Vals: []api.Val{}}, {Ts: 3, Name: "z_9", Vals: []api.Val{{Kind: api.Int, N: -most}, {Kind: api.Int, N: most}, {Kind: api.Int}, {Kind: api.Text}, {Kind: api.Text, S: "\x00\xff"}, {Kind: api.Text, S: string(make([]byte, 64))}, {Kind: api.Bool}, {Kind: api.Bool, N: 1}}},
	}
	b := with(t, -1, l[2], l[0], l[1])
	holds(t, b, -1, l...)
	goes(t, b, 9, l...)
}
