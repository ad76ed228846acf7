package ledger

import (
	"slices"

	"augury/api"
	"augury/event"
	"augury/run"
	"augury/tree"
)

// never is since when a query is degraded that is not.
const never = -1

// Book is all that a query finds of events up to a time, and since when it is
// degraded; -1, if it is not.
func Book(l []api.Schema, q api.Query, events []api.Event, time int64) ([]api.Match, int64) {
	if !tree.Right(q) {
		return nil, never
	}
	b := book{schemas: l, query: q, places: map[api.Val]int{}}
	for _, e := range coming(events, time) {
		b.take(e)
		if b.many() > api.MaxRuns {
			late := func(m api.Match) bool { return m.Done >= e.Ts }
			return once(slices.DeleteFunc(b.found, late)), e.Ts
		}
	}
	b.time(time)
	return once(b.found), never
}

// coming are the right ones of events that come up to a time, in order.
func coming(events []api.Event, time int64) []api.Event {
	var l []api.Event
	for _, e := range events {
		if right(e) && e.Ts <= time {
			l = append(l, e)
		}
	}
	slices.SortStableFunc(l, compareEvents)
	return l
}

// right tells whether that may be an event: of no schemas at all, Fits refuses
// one that may be for its name alone.
func right(e api.Event) bool { return event.Fits(nil, e) != api.ErrArg }

// once are matches in order, of those alike the first alone.
func once(found []api.Match) []api.Match {
	slices.SortStableFunc(found, compare)
	return slices.CompactFunc(found, func(a, b api.Match) bool { return compare(a, b) == 0 })
}

// book is a query's on the way: what goes on in its parts, and what was found.
type book struct {
	schemas []api.Schema
	query   api.Query
	places  map[api.Val]int // of each part that came, how many came ahead of it
	runs    [][]api.Run     // of each part, by its place
	live    []int           // the places of those that may have runs, rising
	found   []api.Match
}

// take has an event come: it is nothing to a query that has no part for it.
func (b *book) take(e api.Event) {
	val, is := Part(b.schemas, b.query, e)
	if !is {
		return
	}
	at := b.place(val)
	b.time(e.Ts - 1)
	b.goOn(at, func(runs []api.Run) ([]api.Run, []api.Match) {
		return run.Step(b.schemas, b.query, runs, e)
	})
	if n, there := slices.BinarySearch(b.live, at); !there {
		b.live = slices.Insert(b.live, n, at)
	}
}

// place is a part's: behind all others, if it is new.
func (b *book) place(val api.Val) int {
	at, there := b.places[val]
	if !there {
		at = len(b.runs)
		b.places[val] = at
		b.runs = append(b.runs, nil)
	}
	return at
}

// time has a time come in all parts, in the order in which these came. Where it
// ends no run, all go on as they are, and need not be copied for it.
func (b *book) time(time int64) {
	over := func(r api.Run) bool { return run.First(r)+b.query.Within <= time }
	for n := range len(b.live) {
		if at := b.live[n]; slices.ContainsFunc(b.runs[at], over) {
			b.goOn(at, func(runs []api.Run) ([]api.Run, []api.Match) {
				return run.Time(b.query, runs, time)
			})
		}
	}
	b.live = slices.DeleteFunc(b.live, func(at int) bool { return len(b.runs[at]) == 0 })
}

// goOn has the runs of a part go on by what they do.
func (b *book) goOn(at int, do func(runs []api.Run) ([]api.Run, []api.Match)) {
	runs, found := do(b.runs[at])
	b.runs[at] = runs
	b.found = append(b.found, found...)
}

// many is how many runs go on, in all parts together.
func (b *book) many() int {
	n := 0
	for _, at := range b.live {
		n += len(b.runs[at])
	}
	return n
}
