package norm

import (
	"slices"

	"augury/api"
	"augury/value"
)

// Fold is an expression without what can be reckoned ahead. It keeps a list of
// where it has yet to go, as a chain of Kids may be longer than calls can be
// deep.
func Fold(x api.Expr) api.Expr {
	made := folds{}
	for left := []visit{{to: &x}}; len(left) > 0; {
		next := left[len(left)-1]
		left = left[:len(left)-1]
		if !double(*next.to) {
			continue
		}
		first, second := &next.to.Kids[0], &next.to.Kids[1]
		row, begun := made[first]
		switch {
		case next.back:
			row[0], row[1] = made.of(*first), made.of(*second)
		case !begun:
			made[first] = make([]api.Expr, 2)
			left = append(left, visit{to: next.to, back: true}, visit{to: first}, visit{to: second})
		}
	}
	return apart(made.of(x))
}

// visit is to an expression; or back to it, when all below it is done.
type visit struct {
	to   *api.Expr
	back bool
}

// double tells whether an expression is made of two.
func double(x api.Expr) bool {
	return (x.Kind == api.ExAdd || x.Kind == api.ExSub) && len(x.Kids) == 2
}

// folds are two Kids that are folded, by the first one's place. They may be the
// Kids of many, so that by each anew there would be no end.
type folds map[*api.Expr][]api.Expr

// of is an expression with its Kids folded; a value, if they make one.
func (f folds) of(x api.Expr) api.Expr {
	if !double(x) {
		return x
	}
	x.Kids = f[&x.Kids[0]]
	if v, e := reckon(x.Kind, x.Kids[0], x.Kids[1]); e == api.OK {
		return api.Expr{Kind: api.ExVal, Val: v}
	}
	return x
}

// reckon is what two make, if both are values.
func reckon(kind int, a, b api.Expr) (api.Val, api.Errno) {
	switch {
	case a.Kind != api.ExVal || b.Kind != api.ExVal:
		return api.Val{}, api.ErrType
	case kind == api.ExAdd:
		return value.Add(a.Val, b.Val)
	}
	return value.Sub(a.Val, b.Val)
}

// ownRows is how many rows of Kids have memory of their own in an answer.
const ownRows = 1 << 18

// apart is an expression each of whose rows of Kids has memory of its own, also
// where one was the Kids of several. As there may be no end of those, what lies
// deeper than so many rows stays where it was: nobody changes that.
func apart(x api.Expr) api.Expr {
	rows := [][]api.Expr{{x}}
	for at := 0; at < len(rows); at++ {
		row := rows[at]
		for i := range row {
			switch {
			case len(row[i].Kids) == 0:
				// Its spare room is somebody else's.
				row[i].Kids = nil
			case len(rows) < ownRows:
				row[i].Kids = slices.Clone(row[i].Kids)
				rows = append(rows, row[i].Kids)
			}
		}
	}
	return rows[0][0]
}
