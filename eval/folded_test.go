package eval_test

import (
	"math"
	"slices"
	"strings"
	"testing"

	"augury/api"
)

// has is an event with that in its field v.
func has(v api.Val) api.Event { return made("a", v) }

// ints are events with numbers.
func ints(l ...int64) []api.Event {
	var out []api.Event
	for _, n := range l {
		out = append(out, has(integer(n)))
	}
	return out
}

// folded asks for the sum, the least and the greatest of events' v.
func folded(t *testing.T, l []api.Event, sum, least, greatest worth) {
	t.Helper()
	b := [][]api.Event{ints(7), l}
	asks(t, b, of(api.ExSum, "y", "v"), sum)
	asks(t, b, of(api.ExMin, "y", "v"), least)
	asks(t, b, of(api.ExMax, "y", "v"), greatest)
}

// P11.1, K1: of numbers.
func TestFolded(t *testing.T) {
	for _, c := range []struct {
		l                    []int64
		sum, least, greatest int64
	}{
		{[]int64{0}, 0, 0, 0}, {[]int64{5}, 5, 5, 5}, {[]int64{-5}, -5, -5, -5}, {[]int64{most}, most, most, most}, {[]int64{-most}, -most, -most, -most},
		{[]int64{1, 3}, 4, 1, 3}, {[]int64{3, 1}, 4, 1, 3}, {[]int64{2, 2}, 4, 2, 2}, {[]int64{-1, 1}, 0, -1, 1}, {[]int64{1, -1}, 0, -1, 1}, {[]int64{-1, -3}, -4, -3, -1}, {[]int64{0, 5}, 5, 0, 5}, {[]int64{5, 0}, 5, 0, 5}, {[]int64{0, -5}, -5, -5, 0},
		{[]int64{2, 1, 3}, 6, 1, 3}, {[]int64{2, 3, 1}, 6, 1, 3}, {[]int64{1, 2, 3}, 6, 1, 3}, {[]int64{3, 2, 1}, 6, 1, 3}, {[]int64{-2, -1, -3}, -6, -3, -1}, {[]int64{0, 0, 0, 0}, 0, 0, 0},
		{[]int64{most, -1, 1}, most, -1, most}, {[]int64{most - 1, 1}, most, 1, most - 1}, {[]int64{most, -most}, 0, -most, most}, {[]int64{-most, most, -most}, -most, -most, most}, {[]int64{1 - most, -1}, -most, 1 - most, -1}, {[]int64{most, 0, 0}, most, 0, most},
	} {
		folded(t, ints(c.l...), is(integer(c.sum)), is(integer(c.least)), is(integer(c.greatest)))
	}
}

// P11.1, K1: a sum is made step by step; one that is too great on the way is none, even if it would not be at the end.
func TestTooGreat(t *testing.T) {
	for _, c := range []struct {
		l               []int64
		least, greatest int64
	}{
		{[]int64{most, 1}, 1, most}, {[]int64{1, most}, 1, most}, {[]int64{-most, -1}, -most, -1}, {[]int64{most, most}, most, most}, {[]int64{most, 1, -1}, -1, most}, {[]int64{most, 1, -most}, -most, most}, {[]int64{-1, -most, most}, -most, most}, {[]int64{most / 2, most / 2, 1, -1}, -1, most / 2}, {[]int64{0, most, 1, -2}, -2, most}, {[]int64{most, most, -most, -most}, -most, most},
	} {
		folded(t, ints(c.l...), wrong(api.ErrNumber), is(integer(c.least)), is(integer(c.greatest)))
	}
	// In another order it is one.
	folded(t, ints(most, -1, 1), is(integer(most)), is(integer(-1)), is(integer(most)))
}

// P11.1, K1: all that are bound, of more than one schema, each at its place.
func TestFoldedPlaces(t *testing.T) {
	l := []api.Event{made("a", integer(2), integer(50)), made("b", text("q"), integer(9)), made("a", integer(-4)), made("b", text(""), integer(1), truth(1))}
	folded(t, l, is(integer(8)), is(integer(-4)), is(integer(9)))
	b := [][]api.Event{l}
	asks(t, b, of(api.ExSum, "x", "v"), is(integer(8)))
	asks(t, b, of(api.ExSum, "x", "w"), wrong(api.ErrNone))
	asks(t, b, of(api.ExSum, "x", "s"), wrong(api.ErrNone))
	asks(t, b[:0], of(api.ExSum, "x", "v"), wrong(api.ErrNone))
}

// none are events without a field v; nonInts are such as have no number in it.
func none() []api.Event {
	return []api.Event{made("a"), made("b", text("q")), made("d", integer(1)), made("e", integer(1)), made("", integer(1))}
}

func nonInts() []api.Event {
	return []api.Event{made("a", text("1")), made("a", truth(1)), made("b", integer(1), text("")), made("c", text("1"), integer(1)), has(api.Val{}), has(api.Val{Kind: 4, N: 1}), has(api.Val{Kind: -1})}
}

// P11.1, K1: an event without the field, or with no number in it, ahead, between and behind.
func TestFoldedErrors(t *testing.T) {
	for want, l := range map[api.Errno][]api.Event{api.ErrNone: none(), api.ErrType: nonInts()} {
		for _, e := range l {
			for many := range 4 {
				for at := range many + 1 {
					folded(t, slices.Insert(ints(1, 2, 3)[:many], at, e), wrong(want), wrong(want), wrong(want))
				}
			}
		}
	}
}

// P11.1, K1: event by event: what is wrong first is told.
func TestFoldedFirst(t *testing.T) {
	for _, n := range none() {
		for _, k := range nonInts() {
			for _, ahead := range [][]api.Event{nil, ints(1), ints(most, -1)} {
				l := append(slices.Clone(ahead), n, k)
				folded(t, l, wrong(api.ErrNone), wrong(api.ErrNone), wrong(api.ErrNone))
				slices.Reverse(l[len(ahead):])
				folded(t, l, wrong(api.ErrType), wrong(api.ErrType), wrong(api.ErrType))
			}
		}
		great := ints(most, 1)
		folded(t, append(great, n), wrong(api.ErrNumber), wrong(api.ErrNone), wrong(api.ErrNone))
		folded(t, []api.Event{great[0], n, great[1]}, wrong(api.ErrNone), wrong(api.ErrNone), wrong(api.ErrNone))
	}
	for _, k := range nonInts() {
		folded(t, append(ints(-most, -1), k), wrong(api.ErrNumber), wrong(api.ErrType), wrong(api.ErrType))
		folded(t, append(ints(-most), k, has(integer(-1))), wrong(api.ErrType), wrong(api.ErrType), wrong(api.ErrType))
	}
}

// P11.1, K1: numbers that are not right are what they are, as long as nothing is added to them.
func TestFoldedNotRight(t *testing.T) {
	for _, n := range []int64{most + 1, -most - 1, math.MaxInt64, math.MinInt64} {
		folded(t, ints(n), is(integer(n)), is(integer(n)), is(integer(n)))
		for _, l := range [][]int64{{n, 0}, {0, n}, {n, 1, 2}, {1, n, 2}, {1, 2, n}, {n, -n}} {
			folded(t, ints(l...), wrong(api.ErrArg), is(integer(slices.Min(l))), is(integer(slices.Max(l))))
		}
		// The first error of a sum ends it.
		folded(t, append(ints(n, 1), none()[0]), wrong(api.ErrArg), wrong(api.ErrNone), wrong(api.ErrNone))
	}
	said := api.Val{Kind: api.Int, N: 3, S: strings.Repeat("a", 99)}
	folded(t, []api.Event{has(said)}, is(said), is(said), is(said))
	folded(t, []api.Event{has(integer(1)), has(said)}, wrong(api.ErrArg), is(integer(1)), is(said))
	folded(t, []api.Event{has(said), has(integer(5))}, wrong(api.ErrArg), is(said), is(integer(5)))
	// Of two that are equal the first is told.
	folded(t, []api.Event{has(said), has(integer(3))}, wrong(api.ErrArg), is(said), is(said))
	folded(t, []api.Event{has(integer(3)), has(said)}, wrong(api.ErrArg), is(integer(3)), is(integer(3)))
}
