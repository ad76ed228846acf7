package check

import (
	"iter"
	"slices"

	"augury/api"
	"augury/event"
)

// kind is that of an expression's values; 0, if it has none. What two are
// reckoned to is a number just if all that they are made of are.
func (a asked) kind(x api.Expr) int {
	if !double(x.Kind) {
		return a.single(x)
	}
	for part := range parts(x) {
		if double(part.Kind) && len(part.Kids) != 2 {
			return 0
		}
		if !double(part.Kind) && a.single(part) != api.Int {
			return 0
		}
	}
	return api.Int
}

// single is the kind of an expression that is not made of others.
func (a asked) single(x api.Expr) int {
	if x.Kind == api.ExVal {
		return x.Val.Kind
	}
	at, is := a.at[x.Var]
	if !is {
		return 0
	}
	i := a.query.Items[at]
	switch {
	case x.Kind == api.ExField:
		return a.shared(i, x.Field)
	case i.Not:
		// Of what must not come there is nothing to count.
		return 0
	case x.Kind == api.ExCount:
		return api.Int
	case x.Kind >= api.ExSum && x.Kind <= api.ExMax && a.shared(i, x.Field) == api.Int:
		return api.Int
	}
	return 0
}

// shared is the kind of a field that the events of all of an item's names have,
// of one kind; 0, if there is none.
func (a asked) shared(i api.Item, field string) int {
	if len(i.Names) == 0 {
		return 0
	}
	kind := a.field(i.Names[0], field)
	other := func(name string) bool { return a.field(name, field) != kind }
	if slices.ContainsFunc(i.Names[1:], other) {
		return 0
	}
	return kind
}

// field is the kind of a field of the events of a name; 0, if there is none.
func (a asked) field(name, field string) int {
	s, _ := a.find(name)
	_, kind := event.Field(s, field)
	return kind
}

// double tells whether expressions of a kind are made of two.
func double(kind int) bool { return kind == api.ExAdd || kind == api.ExSub }

// kids are a row of Kids, by where it stands.
type kids struct {
	first *api.Expr
	many  int
}

// parts are an expression and all that it is made of, in any order. It keeps a
// list of the rows that it has yet to go through, as a chain of Kids may be
// longer than calls can be deep; and it goes through a row once, as one may be
// the Kids of many, so that by each anew there would be no end.
func parts(x api.Expr) iter.Seq[api.Expr] {
	return func(yield func(x api.Expr) bool) {
		met := map[kids]struct{}{}
		for left := [][]api.Expr{{x}}; len(left) > 0; {
			row := left[len(left)-1]
			left = left[:len(left)-1]
			for _, part := range row {
				if !yield(part) {
					return
				}
				if !double(part.Kind) || len(part.Kids) == 0 {
					continue
				}
				place := kids{&part.Kids[0], len(part.Kids)}
				if _, is := met[place]; !is {
					met[place] = struct{}{}
					left = append(left, part.Kids)
				}
			}
		}
	}
}
