package order_test

import (
	"math"
	"runtime"
	"slices"
	"strings"
	"testing"

	"augury/api"
	"augury/order"
)

// but is a right event with something that is otherwise.
func but(change func(e *api.Event)) api.Event {
	e := of(5, 1, 7)
	change(&e)
	return e
}

// wrongs are events that are not right, with one thing wrong each.
func wrongs() []api.Event {
	l := []api.Event{{}, {Ts: 9, Name: ""}, {Ts: 9, Name: "a", Vals: make([]api.Val, 1)}}
	for _, n := range []int64{-1, -2, -most, most + 1, 1 << 41, math.MaxInt64, math.MinInt64, math.MinInt64 + 5} {
		l = append(l, but(func(e *api.Event) { e.Ts = n }), but(func(e *api.Event) { e.Seq = n }))
	}
	for _, depth := range []int{-1, 4, 5, 256, 1<<32 + 1, math.MaxInt, math.MinInt} {
		l = append(l, but(func(e *api.Event) { e.Depth = depth }))
	}
	for _, s := range []string{"", "A", "0", "_a", "a-b", "a ", "é", "\xff", "a\x00", strings.Repeat("a", 17), strings.Repeat("a", 1<<20)} {
		l = append(l, but(func(e *api.Event) { e.Name = s }))
	}
	for _, v := range []api.Val{{}, {Kind: 4}, {Kind: -1}, {Kind: api.Int, N: most + 1}, {Kind: api.Int, N: math.MinInt64}, {Kind: api.Int, S: "x"}, {Kind: api.Text, N: 1}, {Kind: api.Text, S: strings.Repeat("a", 65)}, {Kind: api.Bool, N: 2}, {Kind: api.Bool, S: "x"}} {
		l = append(l, but(func(e *api.Event) { e.Vals = []api.Val{v} }), but(func(e *api.Event) { e.Vals = append(e.Vals, v) }))
	}
	for _, n := range []int{9, 17, 1 << 16} {
		l = append(l, but(func(e *api.Event) { e.Vals = slices.Repeat(e.Vals[:1], n) }))
	}
	return l
}

// refusal is a call that is refused, and its error.
type refusal struct {
	call func(b *order.Buffer) ([]api.Event, api.Errno)
	want api.Errno
}

// refusals are those that a buffer at a time above 0 makes of what is not
// right, late, or waits already.
func refusals(b *order.Buffer) []refusal {
	var l []refusal
	putting := func(e api.Event, want api.Errno) {
		l = append(l, refusal{func(b *order.Buffer) ([]api.Event, api.Errno) { return nil, b.Put(e) }, want})
	}
	coming := func(time int64, want api.Errno) {
		l = append(l, refusal{func(b *order.Buffer) ([]api.Event, api.Errno) { return b.Advance(time) }, want})
	}
	for _, e := range wrongs() {
		putting(e, api.ErrArg)
	}
	for _, w := range b.Waiting() {
		putting(w, api.ErrThere)
		w.Name, w.Vals = "other", nil
		putting(w, api.ErrThere)
		w.Name = "Other"
		putting(w, api.ErrArg)
	}
	for _, ts := range []int64{0, b.Time() - 1, b.Time()} {
		putting(at(ts), api.ErrLate)
		putting(of(ts, 3, most), api.ErrLate)
	}
	for _, time := range []int64{-1, -2, most + 1, math.MaxInt64, math.MinInt64} {
		coming(time, api.ErrArg)
	}
	for _, time := range []int64{0, b.Time() - 1} {
		coming(time, api.ErrLate)
	}
	return l
}

// buffers are some at a time above 0, made anew each time: without events, with few, and with all that may wait.
func buffers(t *testing.T) []*order.Buffer {
	t.Helper()
	worn := with(t, 2, at(3), of(5, 1, 7), of(5, 1, 8), of(5, 2, 0), at(4), at(most))
	goes(t, worn, 4, at(3), at(4))
	filled := with(t, 3, full(5)...)
	return []*order.Buffer{with(t, 9), with(t, most), with(t, 3, of(5, 1, 7)), worn, filled}
}

// P6.3, and P2: what is refused tells its error alone, and leaves the time and what waits as they were.
func TestRefused(t *testing.T) {
	for i, b := range buffers(t) {
		time, before := b.Time(), b.Waiting()
		for k, r := range refusals(b) {
			for range 2 {
				if l, got := r.call(b); got != r.want || len(l) != 0 {
					t.Errorf("%d %d: got %v %d, want %d", i, k, l, got, r.want)
				}
			}
			holds(t, b, time, before...)
		}
	}
}

// P6.3: at no time yet all is refused that is not right.
func TestRefusedAtFirst(t *testing.T) {
	b := order.New()
	for _, e := range wrongs() {
		if got := b.Put(e); got != api.ErrArg {
			t.Errorf("%.99v: %d", e, got)
		}
		holds(t, b, -1)
	}
	for _, time := range []int64{-1, -2, most + 1, math.MaxInt64, math.MinInt64} {
		if l, got := b.Advance(time); got != api.ErrArg || len(l) != 0 {
			t.Errorf("%d: %v %d", time, l, got)
		}
		holds(t, b, -1)
	}
	put(t, b, at(0))
	goes(t, b, 0, at(0))
}

// P6.3: nor is anything otherwise in what comes behind a refusal.
func TestRefusedThenOn(t *testing.T) {
	bs, others := buffers(t), buffers(t)
	for i, b := range bs {
		other := others[i]
		for _, r := range refusals(b) {
			r.call(b)
		}
		for _, ts := range []int64{b.Time() + 1, 5, 5, 6, 1 << 20, most} {
			e := of(ts, 1, 3)
			if got, want := b.Put(e), other.Put(e); got != want {
				t.Errorf("%d: %v: got %d, want %d", i, e, got, want)
			}
			l, got := b.Advance(ts)
			m, want := other.Advance(ts)
			if got != want || !all(l, m) {
				t.Errorf("%d: at %d got %v %d, want %v %d", i, ts, l, got, m, want)
			}
			holds(t, b, other.Time(), other.Waiting()...)
		}
	}
}

// P1: calls end, and none panics, at all arguments.
func TestAllArguments(t *testing.T) {
	numbers := []int64{math.MinInt64, math.MinInt64 + 1, -most, -1, 0, 1, most - 1, most, most + 1, math.MaxInt64}
	events := append(wrongs(), of(5, 1, 7), api.Event{Ts: math.MinInt64, Depth: math.MinInt, Seq: math.MinInt64}, api.Event{Ts: math.MaxInt64, Depth: math.MaxInt, Seq: math.MaxInt64})
	for _, n := range numbers {
		for _, m := range numbers {
			b := order.New()
			b.Advance(n)
			b.Put(of(m, int(n), m))
			b.Put(of(n, 0, m))
			b.Put(of(m, 3, n))
			for _, e := range events {
				b.Put(e)
			}
			b.Advance(m)
			if b.Time() < -1 || b.Time() > most || len(b.Waiting()) > 4 {
				t.Error(n, m, b.Time(), b.Waiting())
			}
		}
	}
}

// P3: what is handed in is neither changed, nor is its spare room.
func TestHandedIn(t *testing.T) {
	room := append(of(5, 1, 7).Vals, at(1).Vals...)
	e := but(func(e *api.Event) { e.Vals = room[:2] })
	b := with(t, 3, e, at(4), at(6))
	b.Waiting()
	goes(t, b, 9, at(4), of(5, 1, 7), at(6))
	if !slices.Equal(room, append(of(5, 1, 7).Vals, at(1).Vals...)) || !same(e, of(5, 1, 7)) {
		t.Error(room, e)
	}
}

// P3: nor is it kept: what is done to it behind a Put does nothing to what waits.
func TestNotKept(t *testing.T) {
	vals := of(5, 1, 7).Vals
	e := but(func(e *api.Event) { e.Vals = vals })
	none := vals[:0]
	b := with(t, 3, e, api.Event{Ts: 8, Name: "none", Vals: none})
	vals[0], vals[1] = api.Val{Kind: 9}, api.Val{}
	e.Ts, e.Name = 99, "changed"
	holds(t, b, 3, of(5, 1, 7), api.Event{Ts: 8, Name: "none"})
	vals[0].N = 77
	goes(t, b, 5, of(5, 1, 7))
	last := b.Waiting()[0]
	_ = append(last.Vals, api.Val{Kind: 8})
	if vals[0].N != 77 || vals[0].Kind != 9 {
		t.Error(vals)
	}
}

// heap is how many bytes are in use.
func heap() uint64 {
	var m runtime.MemStats
	runtime.GC()
	runtime.ReadMemStats(&m)
	return m.HeapAlloc
}

// P3: nothing is kept of what is handed in, of which an event may be a little
// piece: a name, a text, and values, none as well.
func TestPiecesNotKept(t *testing.T) {
	const size = 1 << 16
	b, before := order.New(), heap()
	for i := range int64(256) {
		long := strings.Repeat("a", size)
		vals := make([]api.Val, size/32)
		vals[0] = api.Val{Kind: api.Text, S: strings.Repeat("b", size)[:3]}
		put(t, b, api.Event{Ts: 1, Seq: i, Name: long[:3], Vals: vals[:i%2]})
	}
	if grown := int64(heap()) - int64(before); grown > 32*size {
		t.Error(grown)
	}
	goes(t, b, 0)
	if n := len(b.Waiting()); n != 256 {
		t.Error(n)
	}
}

// spoil changes a list, and all that lies within it, their spare room too.
func spoil(l []api.Event) {
	l = l[:cap(l)]
	for i := range l {
		vals := l[i].Vals[:cap(l[i].Vals)]
		for k := range vals {
			vals[k] = api.Val{Kind: 77, S: "spoilt"}
		}
		l[i] = api.Event{Ts: -7, Name: "spoilt", Vals: vals}
	}
}

// P3: a list that comes out is new memory, its spare room too: what the caller
// does to it does nothing to what waits, nor to another list.
func TestComesOut(t *testing.T) {
	given := []api.Event{at(4), of(5, 1, 7), of(5, 1, 8), at(6), at(7)}
	for many := range len(given) + 1 {
		time := int64(3)
		if many > 0 {
			time = given[many-1].Ts
		}
		b := with(t, 3, given...)
		spoil(b.Waiting())
		holds(t, b, 3, given...)
		told := b.Waiting()
		gone, _ := b.Advance(time)
		n := len(gone)
		spoil(told)
		if !all(gone, given[:n]) {
			t.Error(gone)
		}
		spoil(gone)
		holds(t, b, time, given[n:]...)
		spoil(b.Waiting())
		put(t, b, at(100), at(99), at(98))
		holds(t, b, time, append(slices.Clone(given[n:]), at(98), at(99), at(100))...)
		goes(t, b, most, append(slices.Clone(given[n:]), at(98), at(99), at(100))...)
	}
}

// P3: what went is not touched by what comes behind it.
func TestGoneStays(t *testing.T) {
	b := with(t, -1, at(1), at(2), at(3))
	gone, _ := b.Advance(2)
	told := b.Waiting()
	put(t, b, at(9), at(8), at(7))
	b.Advance(8)
	if !all(gone, []api.Event{at(1), at(2)}) || !all(told, []api.Event{at(3)}) {
		t.Error(gone, told)
	}
}

// P3: two buffers do not touch one another, and answer the same, whatever is asked in between.
func TestApart(t *testing.T) {
	b, other := order.New(), order.New()
	put(t, b, at(3), at(1))
	goes(t, b, 2, at(1))
	holds(t, other, -1)
	put(t, other, at(3))
	for range 3 {
		other.Waiting()
		other.Time()
		other.Put(at(3))
	}
	put(t, other, at(1))
	goes(t, other, 2, at(1))
	holds(t, other, 2, at(3))
	goes(t, other, 3, at(3))
	holds(t, b, 2, at(3))
}
