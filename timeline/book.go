package timeline

import (
	"slices"

	"augury/api"
	"augury/ledger"
)

// never is since when versions are degraded of which none is.
const never = -1

// Book is all that versions find of events up to a time, each while it is in
// force, and since when the first one of them is degraded; -1, if none is.
func Book(s []api.Schema, l []api.Version, events []api.Event, time int64) ([]api.Match, int64) {
	var found []api.Match
	since := int64(never)
	for span := range spans(l) {
		if span.From > time {
			break
		}
		m, at := inForce(s, l[span.At].Query, span, events, time)
		found = append(found, m...)
		since = sooner(since, at)
	}
	return found, since
}

// inForce is what a query finds up to a time, while it is in force. It looks
// back as far as a match that is done then may have begun.
func inForce(s []api.Schema, q api.Query, span api.Span, events []api.Event, time int64) ([]api.Match, int64) {
	early := func(e api.Event) bool { return e.Ts < span.From-q.Within }
	seen := slices.DeleteFunc(slices.Clone(events), early)
	m, since := ledger.Book(s, q, seen, min(time, span.To-1))
	before := func(m api.Match) bool { return m.Done < span.From }
	return slices.DeleteFunc(m, before), since
}

// sooner is the lesser one of two times, but for never.
func sooner(a, b int64) int64 {
	if a == never || b == never {
		return max(a, b)
	}
	return min(a, b)
}
