package tree_test

import (
	"fmt"
	"strconv"
	"strings"
	"testing"

	"augury/api"
	"augury/lex"
	"augury/tree"
)

// dice are numbers that look like thrown ones, the same ones each time.
type dice uint64

func (r *dice) below(n int) int {
	*r = *r*6364136223846793005 + 1442695040888963407
	return int(uint64(*r) >> 33 % uint64(n))
}

func (r *dice) among(l ...string) string { return l[r.below(len(l))] }

// style is how a query is written: plainly, if there are no dice, else with blanks and brackets that need not be.
type style struct{ r *dice }

func (s style) maybe(odds int) bool { return s.r != nil && s.r.below(odds) == 0 }

func double(x api.Expr) bool { return x.Kind == api.ExAdd || x.Kind == api.ExSub }

// needs is how many brackets stand in one another, where an expression is written plainly.
func needs(x api.Expr) int {
	if !double(x) {
		return 0
	}
	second := needs(x.Kids[1])
	if double(x.Kids[1]) {
		second++
	}
	return max(needs(x.Kids[0]), second)
}

// expr is an expression by the document's words, with room for so many brackets in one another.
func (s style) expr(x api.Expr, room int) string {
	word := map[int]string{api.ExCount: "count(", api.ExSum: "sum(", api.ExMin: "min(", api.ExMax: "max("}
	if needs(x) < room && s.maybe(4) {
		return "(" + s.expr(x, room-1) + ")"
	}
	switch x.Kind {
	case api.ExVal:
		return s.val(x.Val)
	case api.ExField:
		return x.Var + "." + x.Field
	case api.ExCount:
		return word[x.Kind] + x.Var + ")"
	case api.ExSum, api.ExMin, api.ExMax:
		return word[x.Kind] + x.Var + "." + x.Field + ")"
	}
	sign := map[int]string{api.ExAdd: " + ", api.ExSub: " - "}[x.Kind]
	if double(x.Kids[1]) {
		return s.expr(x.Kids[0], room) + sign + "(" + s.expr(x.Kids[1], room-1) + ")"
	}
	if needs(x.Kids[0]) < room && s.maybe(4) {
		return "(" + s.expr(x.Kids[0], room-1) + ")" + sign + s.expr(x.Kids[1], room)
	}
	return s.expr(x.Kids[0], room) + sign + s.expr(x.Kids[1], room)
}

func (s style) val(v api.Val) string {
	switch {
	case v.Kind == api.Text:
		return "'" + v.S + "'"
	case v.Kind == api.Bool:
		return strconv.FormatBool(v.N == 1)
	case v.N == 0 && s.maybe(2):
		return "- 0"
	case v.N < 0 && s.maybe(2):
		return "- " + strconv.FormatInt(-v.N, 10)
	}
	return strconv.FormatInt(v.N, 10)
}

func (s style) item(i api.Item) string {
	out := strings.Join(i.Names, " or ") + " " + i.Var + map[int]string{api.One: "", api.Plus: "+", api.Opt: "?"}[i.Mode]
	if i.Not {
		return "not " + out
	}
	return out
}

func (s style) query(q api.Query) string {
	var items, preds []string
	for _, i := range q.Items {
		items = append(items, s.item(i))
	}
	for _, p := range q.Preds {
		sign := map[int]string{api.Eq: "=", api.Ne: "!=", api.Lt: "<", api.Le: "<=", api.Gt: ">", api.Ge: ">="}[p.Cmp]
		preds = append(preds, s.expr(p.L, 6)+" "+sign+" "+s.expr(p.R, 6))
	}
	out := "seq " + strings.Join(items, " then ")
	if len(preds) > 0 {
		out += " where " + strings.Join(preds, " and ")
	}
	out += " within " + strconv.FormatInt(q.Within, 10)
	if q.By != "" {
		out += " by " + q.By
	}
	if q.Pick != api.Any || !s.maybe(2) {
		out += " pick " + map[int]string{api.Any: "any", api.Next: "next", api.Strict: "strict"}[q.Pick]
	}
	return s.spaced(out)
}

// spaced is a text with blanks ahead of, between and behind its tokens, as many as come, or none where none need be.
func (s style) spaced(text string) string {
	l, e, _ := lex.Read(text)
	if s.r == nil || e != api.OK {
		return text
	}
	out := s.r.among("", "", " ", "\n ")
	for i, k := range l {
		apart := []string{" ", "\n", "  ", " \n\n "}
		if i+1 < len(l) && (k.Kind == api.Sign || k.Kind == api.Quoted || l[i+1].Kind >= api.Quoted) {
			apart = append(apart, "", "", "", "")
		}
		out += bytesOf(k) + s.r.among(apart...)
	}
	return out
}

// bytesOf are a token's bytes in its text.
func bytesOf(k api.Token) string {
	if k.Kind == api.Quoted {
		return "'" + k.Text + "'"
	}
	return k.Text
}

// plain is a right query's one text.
func plain(q api.Query) string { return style{}.query(q) }

// word is a name.
func (r *dice) word() string {
	for {
		s := r.among("a", "b", "c", "x", "y", "z", "id", "v", "w", "a1", "b_", "count_of", "longer_than_most")
		if r.below(3) == 0 {
			s = s[:1] + strconv.Itoa(r.below(100))
		}
		if !lex.Key(s) {
			return s
		}
	}
}

// unlike are so many words, no two alike.
func (r *dice) unlike(n int) []string {
	var l []string
	for len(l) < n {
		if w := r.word(); !strings.Contains(" "+strings.Join(l, " ")+" ", " "+w+" ") {
			l = append(l, w)
		}
	}
	return l
}

// expr is a right expression, at most so deep.
func (r *dice) expr(deep int) api.Expr {
	if deep > 1 && r.below(3) > 0 {
		return two(api.ExAdd+r.below(2), r.expr(deep-1), r.expr(deep-1-r.below(deep-1)))
	}
	switch kind := 1 + r.below(6); kind {
	case api.ExVal:
		l := rightVals()
		return val(l[r.below(len(l))])
	case api.ExCount:
		return of(kind, r.word(), "")
	default:
		return of(kind, r.word(), r.word())
	}
}

// query is a right one, of at most so many of each.
func (r *dice) query(items, preds, deep int) api.Query {
	q := api.Query{Within: int64(r.below(100)), Pick: 1 + r.below(3)}
	if r.below(9) == 0 {
		q.Within = most
	}
	if r.below(2) == 0 {
		q.By = r.word()
	}
	for i, v := range r.unlike(1 + r.below(items)) {
		it := api.Item{Names: r.unlike(1 + r.below(3)), Var: v, Mode: 1 + r.below(2)}
		if i > 0 {
			it.Mode = 1 + r.below(3)
			it.Not = r.below(3) == 0
		}
		if it.Not {
			it.Mode = api.One
		}
		q.Items = append(q.Items, it)
	}
	for range r.below(preds + 1) {
		q.Preds = append(q.Preds, api.Pred{Cmp: 1 + r.below(6), L: r.expr(1 + r.below(deep)), R: r.expr(1 + r.below(deep))})
	}
	return q
}

// thereAndBack fails the test unless a right query is parsed of its text, if lex.Read takes that, and tells whether it does.
func thereAndBack(t *testing.T, q api.Query) bool {
	t.Helper()
	s := tree.Print(q)
	if want := plain(q); s != want {
		t.Fatalf("%q is not %q", s, want)
	}
	_, err, place := lex.Read(s)
	got, e, at := tree.Parse(s)
	if err != api.OK {
		if e != err || at != place || !same(got, api.Query{}) {
			t.Fatalf("%q: %v %d %v", s, e, at, got)
		}
		return false
	}
	if e != api.OK || at != 0 || !same(got, q) || !tree.Right(got) {
		t.Fatalf("%q: %v %d\n%v\n%v", s, e, at, clean(got), clean(q))
	}
	return true
}

// P8.2: all kinds of right queries, from their texts.
func TestThereAndBack(t *testing.T) {
	for _, q := range rights() {
		thereAndBack(t, q)
	}
}

// P8.2: thrown queries, small ones and such as lex.Read takes just so, or not.
func TestThrown(t *testing.T) {
	r := dice(8)
	taken, not := 0, 0
	for range 12000 {
		q := r.query(1+r.below(6), r.below(9), 1+r.below(6))
		if !tree.Right(q) {
			t.Fatalf("%v", q)
		}
		if thereAndBack(t, q) {
			taken++
		} else {
			not++
		}
	}
	if taken < 1000 || not < 1000 {
		t.Error(taken, not)
	}
}

// P8.1, H2 and P8.2: thrown queries, written with blanks, brackets and what else need not be.
func TestThrownStyles(t *testing.T) {
	r := dice(88)
	taken := 0
	for range 12000 {
		q := r.query(1+r.below(4), r.below(4), 1+r.below(4))
		s := style{&r}.query(q)
		_, err, _ := lex.Read(s)
		if err != api.OK {
			continue
		}
		taken++
		if got, e, at := tree.Parse(s); e != api.OK || at != 0 || !same(got, q) {
			t.Fatalf("%q: %v %d\n%v\n%v", s, e, at, clean(got), clean(q))
		}
	}
	if taken < 6000 {
		t.Error(taken)
	}
}

// P8.2: texts of as many bytes, and tokens, as may be, and of more.
func TestBounds(t *testing.T) {
	seen := map[int]bool{}
	for n := range 40 {
		q := many(4)
		for i := range n {
			p := &q.Preds[i%4]
			if i%3 == 0 && tree.Deep(p.L) < 6 {
				p.L = add(p.L, num(1))
			} else {
				p.R = sub(num(0), p.R)
			}
		}
		if tree.Right(q) {
			thereAndBack(t, q)
		}
	}
	for n := range 13 {
		for ones := range 11 {
			// There are 9 tokens of one predicate, 8 more of each other one, and 2 of each one that is added.
			q := least()
			for i := range 8 {
				q.Preds = append(q.Preds, api.Pred{Cmp: api.Eq, L: left(1 + min(5, max(0, n-i))), R: left(6)})
			}
			for i := range min(ones, 6) {
				q.Preds[7].R = left(1 + i)
			}
			s := plain(q)
			l, e, _ := lex.Read(s)
			seen[len(l)] = e == api.OK
			if taken := thereAndBack(t, q); taken != (e == api.OK) {
				t.Error(s)
			}
		}
	}
	for n := range 65 {
		q := least()
		for range 6 {
			q.Preds = append(q.Preds, api.Pred{Cmp: api.Eq, L: text(strings.Repeat("q", 62)), R: num(1)})
		}
		q.Preds = append(q.Preds, api.Pred{Cmp: api.Eq, L: num(1), R: text(strings.Repeat("q", n))})
		s := plain(q)
		if taken := thereAndBack(t, q); taken != (len(s) <= 512) {
			t.Error(n, len(s), taken)
		}
	}
	for _, n := range []int{120, 127, 128, 129, 130, 200} {
		// Sums are as deep as they are long, so that these are no queries, but for their tokens.
		s := "seq a x within 0 pick any" + strings.Repeat(" x", n-7)
		_, e, at := tree.Parse(s)
		if want := 26; n <= 128 && (e != api.ErrParse || at != want) || n > 128 && (e != api.ErrTooMany || at != 26+2*121) {
			t.Error(n, e, at)
		}
	}
	for _, s := range []string{strings.Repeat(" ", 512-len(baseText)) + baseText, baseText + strings.Repeat("\n", 512-len(baseText))} {
		if q, e, at := tree.Parse(s); e != api.OK || at != 0 || !same(q, base()) {
			t.Error(e, at)
		}
		for _, s := range []string{s + " ", " " + s} {
			if q, e, at := tree.Parse(s); e != api.ErrTooMany || at != 0 || !same(q, api.Query{}) {
				t.Error(e, at)
			}
		}
	}
}

// P8.1, H2: queries by the language that are not right, written in all styles.
func TestNotRight(t *testing.T) {
	r := dice(888)
	flawed := notRight()
	for i, q := range flawed {
		if tree.Right(q) {
			t.Errorf("%d: %v", i, q)
		}
		for n := range 20 {
			s := plain(q)
			if n > 0 {
				s = style{&r}.query(q)
			}
			if _, e, _ := lex.Read(s); e != api.OK {
				continue
			}
			if got, e, at := tree.Parse(s); e != api.ErrTooMany || at != 0 || !same(got, api.Query{}) {
				t.Errorf("%d: %q: %v %d", i, s, e, at)
			}
		}
	}
}

// notRight are queries that can be written, and are not right.
func notRight() []api.Query {
	l := []api.Query{long(7), long(8), long(20), many(9), many(10), many(15)}
	for _, q := range wrongItems() {
		writable := true
		for _, i := range q.Items {
			writable = writable && len(i.Names) > 0
		}
		if writable {
			l = append(l, q)
		}
	}
	for deep := 7; deep < 12; deep++ {
		l = append(l, with(left(deep))...)
	}
	l = append(l, with(right(7))...)
	l = append(l, with(add(right(6), left(7)))...)
	l = append(l, with(sub(num(1), left(6)))...)
	l = append(l, with(add(left(6), num(1)))...)
	for n := 4; n < 9; n++ {
		names := make([]string, n)
		for i := range names {
			names[i] = fmt.Sprint("n", i)
		}
		l = append(l, but(func(q *api.Query) { q.Items[0].Names = names }), but(func(q *api.Query) { q.Items[1].Names = names }))
	}
	return l
}
