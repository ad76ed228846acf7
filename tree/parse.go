package tree

import (
	"cmp"
	"strconv"

	"augury/api"
	"augury/lex"
)

// Parse is the query of a text; or where it is none.
func Parse(text string) (api.Query, api.Errno, int) {
	l, e, at := lex.Read(text)
	if e != api.OK {
		return api.Query{}, e, at
	}
	r := &reader{left: l, end: len(text), wrong: nowhere}
	q := r.query()
	if r.wrong != nowhere {
		return api.Query{}, api.ErrParse, r.wrong
	}
	if !Right(q) {
		return api.Query{}, api.ErrTooMany, 0
	}
	return q, api.OK, 0
}

// nowhere is where no token begins.
const nowhere = -1

// reader takes a text's tokens, as far as they can stand where they do.
type reader struct {
	left  []api.Token // those that were not taken
	end   int         // where the text ends
	deep  int         // how many brackets are open
	wrong int         // where the first token begins that cannot stand there, or nowhere
}

// mark is what a token is, wherever it begins.
type mark struct {
	kind int
	text string
}

func word(s string) mark { return mark{api.Word, s} }

func sign(s string) mark { return mark{api.Sign, s} }

func (r *reader) query() api.Query {
	var q api.Query
	r.need(word("seq"))
	q.Items = row(r, "then", r.item)
	if r.take(word("where")) {
		q.Preds = row(r, "and", r.pred)
	}
	r.need(word("within"))
	q.Within = r.number()
	if r.take(word("by")) {
		q.By = r.name()
	}
	q.Pick = api.Any
	if r.take(word("pick")) {
		q.Pick = r.choose(api.Word, picks())
	}
	if len(r.left) > 0 {
		r.fail()
	}
	return q
}

// row is one, and one more as long as a word stands between.
func row[T any](r *reader, between string, one func() T) []T {
	l := []T{one()}
	for r.take(word(between)) {
		l = append(l, one())
	}
	return l
}

func (r *reader) item() api.Item {
	var i api.Item
	i.Not = r.take(word("not"))
	i.Names = row(r, "or", r.name)
	i.Var = r.name()
	i.Mode = cmp.Or(r.among(api.Sign, modes()), api.One)
	return i
}

func (r *reader) pred() api.Pred {
	var p api.Pred
	p.L = r.expr()
	p.Cmp = r.choose(api.Sign, cmps())
	p.R = r.expr()
	return p
}

func (r *reader) expr() api.Expr {
	x := r.term()
	for {
		kind := r.among(api.Sign, sums())
		if kind == 0 {
			return x
		}
		second := r.term()
		x = api.Expr{Kind: kind, Kids: []api.Expr{x, second}}
	}
}

func (r *reader) term() api.Expr {
	if v, is := r.val(); is {
		return api.Expr{Kind: api.ExVal, Val: v}
	}
	if r.is(sign("(")) {
		return r.inner()
	}
	if kind := r.among(api.Word, calls()); kind != 0 {
		return r.call(kind)
	}
	return r.field(api.ExField)
}

// val is a value, if what comes begins one.
func (r *reader) val() (api.Val, bool) {
	switch {
	case r.next().Kind == api.Number:
		return api.Val{Kind: api.Int, N: r.number()}, true
	case r.take(sign("-")):
		return api.Val{Kind: api.Int, N: -r.number()}, true
	case r.next().Kind == api.Quoted:
		return api.Val{Kind: api.Text, S: r.of(api.Quoted)}, true
	}
	for n, s := range truths {
		if r.take(word(s)) {
			return api.Val{Kind: api.Bool, N: int64(n)}, true
		}
	}
	return api.Val{}, false
}

// inner is an expression in brackets.
func (r *reader) inner() api.Expr {
	if r.deep == api.MaxDeep {
		r.fail()
	}
	r.need(sign("("))
	r.deep++
	x := r.expr()
	r.deep--
	r.need(sign(")"))
	return x
}

// call is what stands behind the word of a kind. Its brackets are none of
// those that are counted.
func (r *reader) call(kind int) api.Expr {
	var x api.Expr
	r.need(sign("("))
	if kind == api.ExCount {
		x = api.Expr{Kind: kind, Var: r.name()}
	} else {
		x = r.field(kind)
	}
	r.need(sign(")"))
	return x
}

// field is an expression of a kind that says a field of a variable.
func (r *reader) field(kind int) api.Expr {
	x := api.Expr{Kind: kind}
	x.Var = r.name()
	r.need(sign("."))
	x.Field = r.name()
	return x
}

func (r *reader) name() string {
	if lex.Key(r.next().Text) {
		r.fail()
	}
	return r.of(api.Word)
}

func (r *reader) number() int64 {
	// Without a number, that has failed, it is 0.
	n, _ := strconv.ParseInt(r.of(api.Number), 10, 64)
	return n
}

// of is the text of the token that comes, which has to be of a kind.
func (r *reader) of(kind int) string {
	k := r.next()
	if k.Kind != kind {
		r.fail()
		return ""
	}
	r.left = r.left[1:]
	return k.Text
}

// choose is the number of the token that comes, which has to be one of l.
func (r *reader) choose(kind int, l texts) int {
	n := r.among(kind, l)
	if n == 0 {
		r.fail()
	}
	return n
}

// among is the number of the token that comes, if it is one of l, and takes
// it; else 0. No word or sign is empty, as the texts are of other numbers.
func (r *reader) among(kind int, l texts) int {
	for n, s := range l {
		if r.take(mark{kind, s}) {
			return n
		}
	}
	return 0
}

// need takes the token that comes, which has to be that.
func (r *reader) need(m mark) {
	if !r.take(m) {
		r.fail()
	}
}

// take takes the token that comes, if it is that.
func (r *reader) take(m mark) bool {
	is := r.is(m)
	if is {
		r.left = r.left[1:]
	}
	return is
}

// is tells whether the token that comes is that.
func (r *reader) is(m mark) bool {
	k := r.next()
	return m == mark{k.Kind, k.Text}
}

// next is the token that comes; at the end one of no kind.
func (r *reader) next() api.Token {
	if len(r.left) == 0 {
		return api.Token{At: r.end}
	}
	return r.left[0]
}

// fail keeps what is wrong first. Nothing is left then, so that whoever goes
// on comes to an end.
func (r *reader) fail() {
	if r.wrong == nowhere {
		r.wrong = r.next().At
	}
	r.left = nil
}
