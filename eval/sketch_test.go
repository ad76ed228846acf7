package eval_test

import (
	"reflect"
	"slices"

	"augury/api"
	"augury/norm"
	"augury/value"
)

func same(a, b any) bool { return reflect.DeepEqual(a, b) }

// sketch is what the document's words say of an expression, step by step.
func sketch(l []api.Schema, q api.Query, b [][]api.Event, x api.Expr) (api.Val, api.Errno) {
	none := api.Val{}
	switch x.Kind {
	default:
		return none, api.ErrArg
	case api.ExVal:
		if !value.Right(x.Val) {
			return none, api.ErrArg
		}
		return x.Val, api.OK
	case api.ExAdd, api.ExSub:
		return sketchTwo(l, q, b, x)
	case api.ExField, api.ExCount, api.ExSum, api.ExMin, api.ExMax:
	}
	at := 0
	for at < len(q.Items) && q.Items[at].Var != x.Var {
		at++
	}
	if at == len(q.Items) {
		return none, api.ErrArg
	}
	var row []api.Event
	if at < len(b) {
		row = b[at]
	}
	if x.Kind == api.ExCount {
		return integer(int64(len(row))), api.OK
	}
	if len(row) == 0 {
		return none, api.ErrNone
	}
	if x.Kind == api.ExField {
		return sketchField(l, row[len(row)-1], x.Field)
	}
	return sketchMany(l, row, x)
}

func sketchTwo(l []api.Schema, q api.Query, b [][]api.Event, x api.Expr) (api.Val, api.Errno) {
	if len(x.Kids) != 2 {
		return api.Val{}, api.ErrArg
	}
	first, e := sketch(l, q, b, x.Kids[0])
	if e != api.OK {
		return api.Val{}, e
	}
	second, e := sketch(l, q, b, x.Kids[1])
	if e != api.OK {
		return api.Val{}, e
	}
	if x.Kind == api.ExAdd {
		return value.Add(first, second)
	}
	return value.Sub(first, second)
}

func sketchField(l []api.Schema, e api.Event, name string) (api.Val, api.Errno) {
	for _, s := range l {
		if s.Name != e.Name {
			continue
		}
		for at, f := range s.Fields {
			if f.Name != name {
				continue
			}
			if at < len(e.Vals) {
				return e.Vals[at], api.OK
			}
			break
		}
		break
	}
	return api.Val{}, api.ErrNone
}

func sketchMany(l []api.Schema, row []api.Event, x api.Expr) (api.Val, api.Errno) {
	var all api.Val
	for n, event := range row {
		v, e := sketchField(l, event, x.Field)
		if e != api.OK {
			return api.Val{}, e
		}
		if v.Kind != api.Int {
			return api.Val{}, api.ErrType
		}
		switch {
		case n == 0:
			all = v
		case x.Kind == api.ExSum:
			if all, e = value.Add(all, v); e != api.OK {
				return api.Val{}, e
			}
		case x.Kind == api.ExMin && v.N < all.N, x.Kind == api.ExMax && v.N > all.N:
			all = v
		}
	}
	return all, api.OK
}

func sketchHolds(l []api.Schema, q api.Query, b [][]api.Event, p api.Pred) bool {
	left, e := sketch(l, q, b, p.L)
	right, f := sketch(l, q, b, p.R)
	switch {
	case e == api.ErrNone, f == api.ErrNone:
		return true
	case e != api.OK, f != api.OK:
		return false
	}
	is, e := value.Compare(p.Cmp, left, right)
	return e == api.OK && is
}

func sketchAll(l []api.Schema, q api.Query, b [][]api.Event, place int) bool {
	for _, p := range q.Preds {
		if norm.Place(q, p) == place && !sketchHolds(l, q, b, p) {
			return false
		}
	}
	return true
}

// dice are numbers that look like thrown ones, the same ones each time.
type dice uint64

func (r *dice) below(n int) int {
	*r = *r*6364136223846793005 + 1442695040888963407
	return int(uint64(*r) >> 33 % uint64(n))
}

// rarely is so once in so many times.
func (r *dice) rarely(n int) bool { return r.below(n) == 0 }

func (r *dice) among(l ...string) string { return l[r.below(len(l))] }

// val is a value that is right, of one kind more often than not, near an end of it now and then.
func (r *dice) val(kind int) api.Val {
	if r.rarely(12) {
		kind = 1 + r.below(3)
	}
	switch kind {
	case api.Text:
		return text(r.among("", "a", "b", "ab", "x.v"))
	case api.Bool:
		return truth(int64(r.below(2)))
	}
	switch r.below(8) {
	case 0:
		return integer(most - int64(r.below(3)))
	case 1:
		return integer(int64(r.below(3)) - most)
	}
	return integer(int64(r.below(5) - 2))
}

// wildVal is a value, right or not.
func (r *dice) wildVal(kind int) api.Val {
	if r.rarely(16) {
		return odd()[r.below(len(odd()))]
	}
	return r.val(kind)
}

// schemas are some, often such as have most of what is asked for.
func (r *dice) schemas() []api.Schema {
	l := world()
	for range r.below(3) {
		i, j := r.below(len(l)), r.below(len(l))
		l[i], l[j] = l[j], l[i]
	}
	if r.rarely(4) {
		l = l[:r.below(len(l))]
	}
	return l
}

// event is one of schemas, with some of its Vals, or more, or others.
func (r *dice) event(l []api.Schema) api.Event {
	e := made(r.among("a", "a", "b", "b", "c"))
	if r.rarely(12) {
		e.Name = r.among("d", "e", "", "aa")
	}
	for _, s := range l {
		if s.Name != e.Name {
			continue
		}
		for _, f := range s.Fields {
			e.Vals = append(e.Vals, r.wildVal(f.Kind))
		}
		break
	}
	if r.rarely(8) {
		e.Vals = append(e.Vals, r.wildVal(1))
	}
	if r.rarely(8) {
		e.Vals = e.Vals[:r.below(len(e.Vals)+1)]
	}
	return e
}

// bound are rows of events, fewer than the items, or more, now and then.
func (r *dice) bound(l []api.Schema, items int) [][]api.Event {
	if r.rarely(3) {
		items = r.below(items + 3)
	}
	var b [][]api.Event
	for range items {
		var row []api.Event
		for range []int{0, 1, 1, 1, 2, 3, 5}[r.below(7)] {
			row = append(row, r.event(l))
		}
		b = append(b, row)
	}
	return b
}

// expr is a right expression, at most so deep, of variables of l.
func (r *dice) expr(deep int, l []string) api.Expr {
	if deep > 1 && r.below(3) > 0 {
		return two(api.ExAdd+r.below(2), r.expr(deep-1, l), r.expr(deep-r.below(deep-1)-1, l))
	}
	switch kind := 1 + r.below(8); kind {
	case api.ExField, api.ExSum, api.ExMin, api.ExMax:
		return of(kind, r.among(l...), r.among("v", "v", "v", "w", "s", "t", "u"))
	case api.ExCount:
		return api.Expr{Kind: kind, Var: r.among(l...)}
	}
	return val(r.val(api.Int))
}

// wild is an expression, right or not.
func (r *dice) wild(deep int, l []string) api.Expr {
	x := r.expr(1, l)
	if deep > 1 && r.below(3) > 0 {
		x = api.Expr{Kind: api.ExAdd + r.below(2)}
		many := 2
		if r.rarely(12) {
			many = r.below(4)
		}
		for range many {
			x.Kids = append(x.Kids, r.wild(deep-1, l))
		}
	}
	if r.rarely(12) {
		x.Val, x.Var = r.wildVal(1), r.among("", "x", "y")
	}
	if r.rarely(20) {
		x.Kind = r.below(11) - 1
	}
	return x
}

var vars = []string{"x", "y", "n", "z"}

// pred is one, of sides that can be compared more often than not.
func (r *dice) pred(side func() api.Expr) api.Pred {
	p := api.Pred{Cmp: 1 + r.below(6), L: side(), R: side()}
	switch r.below(4) {
	case 0:
		field := r.among("v", "s", "t")
		p.L, p.R = of(api.ExField, r.among(vars...), field), of(api.ExField, r.among(vars...), field)
	case 1:
		p.R = num(int64(r.below(4)))
	}
	return p
}

// query is a right one, of up to four items.
func (r *dice) query() api.Query {
	q := api.Query{Within: 5, Pick: 1 + r.below(3)}
	for at, name := range vars[:1+r.below(len(vars))] {
		it := api.Item{Names: []string{"a", "b"}, Var: name, Mode: 1 + r.below(3)}
		if at == 0 {
			it.Mode = 1 + r.below(2)
		} else if r.rarely(4) {
			it.Not, it.Mode = true, api.One
		}
		q.Items = append(q.Items, it)
	}
	for range r.below(9) {
		side := func() api.Expr { return r.expr(1+r.below(6), vars[:1+r.below(len(vars))]) }
		p := r.pred(side)
		if len(q.Preds) > 0 && r.rarely(6) {
			p = q.Preds[r.below(len(q.Preds))]
		}
		q.Preds = append(q.Preds, p)
	}
	return q
}

// wildQuery has items of one Var, and predicates that are not right.
func (r *dice) wildQuery() api.Query {
	q := r.query()
	for range r.below(3) {
		q.Items = append(q.Items, api.Item{Not: r.rarely(2), Var: r.among(vars...), Mode: r.below(5)})
	}
	if r.rarely(9) {
		q.Items = nil
	}
	for i := range q.Preds {
		q.Preds[i] = r.pred(func() api.Expr { return r.wild(1+r.below(4), append(slices.Clone(vars), "q")) })
		if r.rarely(9) {
			q.Preds[i].Cmp = r.below(9) - 1
		}
	}
	return q
}
