package timeline

import (
	"slices"

	"augury/api"
)

// apart are versions, right ones, that share no memory with l.
func apart(l []api.Version) []api.Version {
	l = slices.Clone(l)
	for i := range l {
		q := &l[i].Query
		q.Items = slices.Clone(q.Items)
		for j := range q.Items {
			q.Items[j].Names = slices.Clone(q.Items[j].Names)
		}
		q.Preds = slices.Clone(q.Preds)
		for j := range q.Preds {
			q.Preds[j].L = apartExpr(q.Preds[j].L)
			q.Preds[j].R = apartExpr(q.Preds[j].R)
		}
	}
	return l
}

// apartExpr is of an expression what apart is of versions. Calls go no deeper
// than a right expression is.
func apartExpr(x api.Expr) api.Expr {
	x.Kids = slices.Clone(x.Kids)
	for i := range x.Kids {
		x.Kids[i] = apartExpr(x.Kids[i])
	}
	return x
}
