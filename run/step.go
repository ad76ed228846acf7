package run

import (
	"iter"
	"slices"

	"augury/api"
	"augury/eval"
)

// nowhere is where a run stands that has taken nothing yet.
const nowhere = -1

// coming is an event that comes, and what it comes to.
type coming struct {
	schemas []api.Schema
	query   api.Query
	states  []api.State
	event   api.Event
}

// deed is what a run does: it goes on, or it is found as it is now, or both.
type deed struct {
	run   api.Run
	on    bool
	found bool
}

// deeds tells what each run does, one behind the other, and then what begins.
func (c coming) deeds(runs []api.Run) iter.Seq[deed] {
	return func(yield func(d deed) bool) {
		for _, r := range runs {
			for d := range c.does(r) {
				if !yield(d) {
					return
				}
			}
		}
		begun := api.Run{At: nowhere, Bound: make([][]api.Event, len(c.query.Items))}
		for _, r := range c.taken(begun) {
			if !yield(c.behind(r)) {
				return
			}
		}
	}
}

// does tells what a run does: it stays as it is, and it is what it is when it
// has taken the event. What is picked says which of these.
func (c coming) does(r api.Run) iter.Seq[deed] {
	return func(yield func(d deed) bool) {
		if c.refused(r) {
			return
		}
		taken, stays := c.taken(r), true
		switch c.query.Pick {
		case api.Strict:
			stays = waits(c.state(r))
			fallthrough
		case api.Next:
			stays = stays && len(taken) == 0
			taken = taken[:min(len(taken), 1)]
		}
		if stays && !yield(deed{run: r, on: true}) {
			return
		}
		for _, t := range taken {
			if !yield(c.behind(t)) {
				return
			}
		}
	}
}

// refused tells whether the event is one that must not come to a run.
func (c coming) refused(r api.Run) bool {
	for _, at := range c.state(r).Guards {
		if _, is := c.takes(r, at); is {
			return true
		}
	}
	return false
}

// taken are what a run is when it has taken the event, by each item that may
// come next and that the event fits.
func (c coming) taken(r api.Run) []api.Run {
	var l []api.Run
	for _, at := range c.state(r).Next {
		if t, is := c.takes(r, at); is {
			l = append(l, t)
		}
	}
	return l
}

// takes is what a run is when it has taken the event by an item; false, if the
// event does not fit that.
func (c coming) takes(r api.Run, at int) (api.Run, bool) {
	if !slices.Contains(c.query.Items[at].Names, c.event.Name) {
		return api.Run{}, false
	}
	bound := slices.Clone(r.Bound)
	bound[at] = slices.Concat(bound[at], []api.Event{c.event})
	if !eval.All(c.schemas, c.query, bound, at) {
		return api.Run{}, false
	}
	return api.Run{At: at, Bound: bound}, true
}

// behind is what a run does that has just taken the event.
func (c coming) behind(r api.Run) deed {
	s := c.state(r)
	return deed{
		run:   r,
		on:    len(s.Next) > 0 || waits(s),
		found: s.Final && len(s.Guards) == 0,
	}
}

// state is that of a run.
func (c coming) state(r api.Run) api.State { return c.states[r.At+1] }
