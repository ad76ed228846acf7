package eval

import (
	"iter"
	"slices"

	"augury/api"
	"augury/event"
	"augury/value"
)

// asked is what expressions are asked of: the events that are bound, and where
// these, and their fields, are found.
type asked struct {
	bound [][]api.Event
	item  func(name string) int // the place of a variable's item; -1, if there is none
	place func(named field) int // that of a field among its event's Vals; -1, if there is none
}

// field is one of the events of a name.
type field struct{ event, name string }

func asking(l []api.Schema, q api.Query, bound [][]api.Event) asked {
	item := func(name string) int {
		return slices.IndexFunc(q.Items, func(i api.Item) bool { return i.Var == name })
	}
	place := func(named field) int {
		s, _ := event.Find(l, named.event)
		at, _ := event.Field(s, named.name)
		return at
	}
	return asked{bound: bound, item: known(item), place: known(place)}
}

// known is a function that asks another one once for each key, however often it
// is asked itself.
func known[K comparable](ask func(key K) int) func(key K) int {
	answers := map[K]int{}
	return func(key K) int {
		n, is := answers[key]
		if !is {
			n = ask(key)
			answers[key] = n
		}
		return n
	}
}

// worth is what an expression is. It keeps a list of where it has yet to go, as
// a chain of Kids may be longer than calls can be deep.
func (a asked) worth(x api.Expr) worth {
	if !double(x) {
		return a.single(x)
	}
	done := pairs{}
	for left := []visit{{to: &x}}; len(left) > 0; {
		next := left[len(left)-1]
		left = left[:len(left)-1]
		if !double(*next.to) {
			continue
		}
		first, second := &next.to.Kids[0], &next.to.Kids[1]
		_, begun := done[first]
		switch {
		case next.back:
			done[first] = [2]worth{a.among(done, *first), a.among(done, *second)}
		case !begun:
			// Who meets these Kids again ahead of their end is below itself,
			// and finds no values there, that have no sum either.
			done[first] = [2]worth{}
			left = append(left, visit{to: next.to, back: true}, visit{to: first}, visit{to: second})
		}
	}
	return a.among(done, x)
}

// visit is to an expression; or back to it, when all below it is done.
type visit struct {
	to   *api.Expr
	back bool
}

// pairs are what two Kids are worth, by the first one's place. They may be the
// Kids of many, so that by each anew there would be no end.
type pairs map[*api.Expr][2]worth

// among is what an expression is worth whose Kids' worths are known.
func (a asked) among(done pairs, x api.Expr) worth {
	if !double(x) {
		return a.single(x)
	}
	kids := done[&x.Kids[0]]
	return both(kids[0], kids[1], reckoners()[x.Kind])
}

// double tells whether an expression is made of two.
func double(x api.Expr) bool {
	return (x.Kind == api.ExAdd || x.Kind == api.ExSub) && len(x.Kids) == 2
}

// single is what an expression that is not made of two is worth.
func (a asked) single(x api.Expr) worth {
	switch x.Kind {
	case api.ExVal:
		if value.Right(x.Val) {
			return worth{val: x.Val}
		}
	case api.ExField, api.ExCount, api.ExSum, api.ExMin, api.ExMax:
		if at := a.item(x.Var); at >= 0 {
			return a.named(x, a.events(at))
		}
	}
	return worth{err: api.ErrArg}
}

// events are those that are bound to the item of a place.
func (a asked) events(at int) []api.Event {
	if at >= len(a.bound) {
		return nil
	}
	return a.bound[at]
}

// named is what an expression is worth whose variable has those events.
func (a asked) named(x api.Expr, l []api.Event) worth {
	switch {
	case x.Kind == api.ExCount:
		return worth{val: api.Val{Kind: api.Int, N: int64(len(l))}}
	case len(l) == 0:
		return worth{err: api.ErrNone}
	case x.Kind == api.ExField:
		return a.field(l[len(l)-1], x.Field)
	}
	reckon := reckoners()[x.Kind]
	all := a.number(l[0], x.Field)
	for n := range a.numbers(l[1:], x.Field) {
		all = both(all, n, reckon)
		if all.err != api.OK {
			break
		}
	}
	return all
}

// numbers are those that events have in a field, one by one.
func (a asked) numbers(l []api.Event, name string) iter.Seq[worth] {
	return func(yield func(n worth) bool) {
		for _, e := range l {
			if !yield(a.number(e, name)) {
				return
			}
		}
	}
}

// number is what an event has in a field, if that is one.
func (a asked) number(e api.Event, name string) worth {
	w := a.field(e, name)
	if w.err == api.OK && w.val.Kind != api.Int {
		return worth{err: api.ErrType}
	}
	return w
}

// field is what an event has in a field: it may have fewer Vals than its schema
// has fields.
func (a asked) field(e api.Event, name string) worth {
	at := a.place(field{e.Name, name})
	if at < 0 || at >= len(e.Vals) {
		return worth{err: api.ErrNone}
	}
	return worth{val: e.Vals[at]}
}
