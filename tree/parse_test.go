package tree_test

import (
	"slices"
	"strconv"
	"strings"
	"testing"

	"augury/api"
	"augury/lex"
	"augury/tree"
)

// rule is where what a rule of the language tells may end, if it begins at a place of l, within so many brackets; far is the last token that was come to and could not stand there.
type rule func(l []api.Token, at, deep int, far *int) []int

func one(is func(k api.Token) bool) rule {
	return func(l []api.Token, at, deep int, far *int) []int {
		if at < len(l) && is(l[at]) {
			return []int{at + 1}
		}
		*far = max(*far, at)
		return nil
	}
}

func kept(s string) rule {
	return one(func(k api.Token) bool {
		return k.Text == s && (k.Kind == api.Sign || k.Kind == api.Word && lex.Key(s))
	})
}

func kind(n int) rule { return one(func(k api.Token) bool { return k.Kind == n }) }

func name() rule {
	return one(func(k api.Token) bool { return k.Kind == api.Word && !lex.Key(k.Text) })
}

func either(rules ...rule) rule {
	return func(l []api.Token, at, deep int, far *int) []int {
		var out []int
		for _, r := range rules {
			out = joined(out, r(l, at, deep, far))
		}
		return out
	}
}

func then(rules ...rule) rule {
	return func(l []api.Token, at, deep int, far *int) []int {
		ends := []int{at}
		for _, r := range rules {
			var next []int
			for _, e := range ends {
				next = joined(next, r(l, e, deep, far))
			}
			ends = next
		}
		return ends
	}
}

func often(r rule) rule {
	return func(l []api.Token, at, deep int, far *int) []int {
		ends := []int{at}
		for i := 0; i < len(ends); i++ {
			ends = joined(ends, r(l, ends[i], deep, far))
		}
		return ends
	}
}

func perhaps(rules ...rule) rule { return either(then(), then(rules...)) }

func anyOf(l ...string) rule {
	var rules []rule
	for _, s := range l {
		rules = append(rules, kept(s))
	}
	return either(rules...)
}

// joined are both, each once.
func joined(a, b []int) []int {
	for _, n := range b {
		if !slices.Contains(a, n) {
			a = append(a, n)
		}
	}
	return a
}

// inner is an expr in brackets, if these are not too many.
func inner(l []api.Token, at, deep int, far *int) []int {
	if deep == 6 {
		*far = max(*far, at)
		return nil
	}
	return then(kept("("), expr, kept(")"))(l, at, deep+1, far)
}

func expr(l []api.Token, at, deep int, far *int) []int {
	return then(term, often(then(anyOf("+", "-"), term)))(l, at, deep, far)
}

func term(l []api.Token, at, deep int, far *int) []int {
	field := then(name(), kept("."), name())
	return either(
		then(perhaps(kept("-")), kind(api.Number)), kind(api.Quoted), anyOf("true", "false"),
		then(kept("count"), kept("("), name(), kept(")")),
		then(anyOf("sum", "min", "max"), kept("("), field, kept(")")),
		field, inner,
	)(l, at, deep, far)
}

// language is a query, to its end.
func language() rule {
	item := then(perhaps(kept("not")), name(), often(then(kept("or"), name())), name(), perhaps(anyOf("+", "?")))
	pred := then(expr, anyOf("=", "!=", "<", "<=", ">", ">="), expr)
	end := func(l []api.Token, at, deep int, far *int) []int {
		if at == len(l) {
			return []int{at}
		}
		*far = max(*far, at)
		return nil
	}
	return then(
		kept("seq"), item, often(then(kept("then"), item)),
		perhaps(kept("where"), pred, often(then(kept("and"), pred))),
		kept("within"), kind(api.Number), perhaps(kept("by"), name()),
		perhaps(kept("pick"), anyOf("any", "next", "strict")), end,
	)
}

var whole = language()

// wrong is what is wrong with a text by H2, up to whether the query is right, and where.
func wrong(text string) (api.Errno, int) {
	l, e, at := lex.Read(text)
	if e != api.OK {
		return e, at
	}
	far := 0
	if len(whole(l, 0, 0, &far)) > 0 {
		return api.OK, 0
	}
	if far == len(l) {
		return api.ErrParse, len(text)
	}
	return api.ErrParse, l[far].At
}

// split are the rows of tokens between those that are one of these, and which these are.
func split(l []api.Token, words ...string) ([][]api.Token, []string) {
	rows, is := [][]api.Token{nil}, []string{}
	for _, k := range l {
		if k.Kind != api.Quoted && slices.Contains(words, k.Text) {
			rows, is = append(rows, nil), append(is, k.Text)
		} else {
			rows[len(rows)-1] = append(rows[len(rows)-1], k)
		}
	}
	return rows, is
}

// said is what a text says that is a query by the language, right or not.
func said(text string) api.Query {
	l, _, _ := lex.Read(text)
	halves, _ := split(l, "within")
	head, _ := split(halves[0][1:], "where")
	q := api.Query{Pick: api.Any}
	items, _ := split(head[0], "then")
	for _, i := range items {
		q.Items = append(q.Items, saidItem(i))
	}
	if len(head) > 1 {
		preds, _ := split(head[1], "and")
		for _, p := range preds {
			sides, is := split(p, "=", "!=", "<", "<=", ">", ">=")
			q.Preds = append(q.Preds, api.Pred{Cmp: 1 + slices.Index([]string{"=", "!=", "<", "<=", ">", ">="}, is[0]), L: saidExpr(sides[0]), R: saidExpr(sides[1])})
		}
	}
	tail, is := split(halves[1], "by", "pick")
	q.Within, _ = strconv.ParseInt(tail[0][0].Text, 10, 64)
	for i, w := range is {
		if s := tail[i+1][0].Text; w == "by" {
			q.By = s
		} else {
			q.Pick = 1 + slices.Index([]string{"any", "next", "strict"}, s)
		}
	}
	return q
}

func saidItem(l []api.Token) api.Item {
	i := api.Item{Mode: api.One}
	if l[0].Text == "not" {
		i.Not, l = true, l[1:]
	}
	switch l[len(l)-1].Text {
	case "+":
		i.Mode, l = api.Plus, l[:len(l)-1]
	case "?":
		i.Mode, l = api.Opt, l[:len(l)-1]
	}
	names, _ := split(l[:len(l)-1], "or")
	for _, n := range names {
		i.Names = append(i.Names, n[0].Text)
	}
	i.Var = l[len(l)-1].Text
	return i
}

// saidExpr is the last sum, or difference, that is in no brackets, of what is ahead of it and of what is behind it; else a term.
func saidExpr(l []api.Token) api.Expr {
	sum, open := 0, 0
	for i, k := range l {
		switch {
		case k.Kind != api.Sign:
		case k.Text == "(":
			open++
		case k.Text == ")":
			open--
		case open == 0 && i > 0 && (k.Text == "+" || k.Text == "-") && (l[i-1].Kind != api.Sign || l[i-1].Text == ")"):
			sum = i
		}
	}
	if sum > 0 {
		return two(api.ExAdd+strings.Index("+-", l[sum].Text), saidExpr(l[:sum]), saidExpr(l[sum+1:]))
	}
	return saidTerm(l)
}

func saidTerm(l []api.Token) api.Expr {
	k := l[0]
	n, _ := strconv.ParseInt(l[len(l)-1].Text, 10, 64)
	switch {
	case k.Kind == api.Quoted:
		return text(k.Text)
	case k.Kind == api.Number:
		return num(n)
	case k.Text == "-":
		return num(-n)
	case k.Text == "(":
		return saidExpr(l[1 : len(l)-1])
	case k.Text == "true":
		return truth(1)
	case k.Text == "false":
		return truth(0)
	case k.Text == "count":
		return of(api.ExCount, l[2].Text, "")
	case lex.Key(k.Text):
		return of(api.ExSum+slices.Index([]string{"sum", "min", "max"}, k.Text), l[2].Text, l[4].Text)
	}
	return of(api.ExField, k.Text, l[2].Text)
}

// holds fails the test unless a text is parsed, or not, as the document says.
func holds(t *testing.T, text string) {
	t.Helper()
	q, e, at := tree.Parse(text)
	if at < 0 || at > len(text) {
		t.Fatalf("%q: %v at %d", text, e, at)
	}
	want, place := wrong(text)
	var query api.Query
	if want == api.OK {
		query = said(text)
		if !tree.Right(query) {
			want, query = api.ErrTooMany, api.Query{}
		}
	}
	if e != want || at != place || !same(q, query) {
		t.Fatalf("%q: got %v %d %v, want %v %d %v", text, e, at, q, want, place, query)
	}
	if e == api.OK {
		thereAndBack(t, q)
	}
}

// fails fails the test unless a text has this error, at this place, and no query.
func fails(t *testing.T, text string, want api.Errno, place int) {
	t.Helper()
	if q, e, at := tree.Parse(text); e != want || at != place || !same(q, api.Query{}) {
		t.Errorf("%q: got %v %d, want %v %d", text, e, at, want, place)
	}
	if e, at := wrong(text); want != api.ErrTooMany && (e != want || at != place) {
		t.Errorf("%q: by the sketch %v %d", text, e, at)
	}
}

// P8.1, H2: the document's example, and what else a text may say.
func TestExamples(t *testing.T) {
	is := func(s string, want api.Query) {
		t.Helper()
		if q, e, at := tree.Parse(s); e != api.OK || at != 0 || !same(q, want) {
			t.Errorf("%q: %v %d %v", s, e, at, q)
		}
		holds(t, s)
	}
	is("seq a x then b y+ within 5", api.Query{Items: []api.Item{item("a", "x", api.One), item("b", "y", api.Plus)}, Within: 5, Pick: api.Any})
	is(baseText, base())
	head, tail, _ := strings.Cut(baseText, "'it (is)'")
	is("\n\n"+strings.ReplaceAll(head, " ", "\n  ")+"'it (is)'"+strings.ReplaceAll(tail, " ", "  \n")+" \n", base())
}

// P8.1, H2: expressions, with brackets and without.
func TestExpressions(t *testing.T) {
	v, one, three := of(api.ExField, "x", "v"), num(1), num(3)
	for s, want := range map[string]api.Expr{
		"x.v": v, "x . v": v, "(x.v)": v, "((x.v))": v, "((((((x.v))))))": v, "1": one, "(1)": one, "-1": num(-1), "- 1": num(-1), "-0": num(0), "0": num(0), "(-1)": num(-1), "((((((-1))))))": num(-1),
		"1099511627776": num(most), "-1099511627776": num(-most), "''": text(""), "' '": text(" "), "'seq'": text("seq"), "'='": text("="), "('a')": text("a"), "true": truth(1), "false": truth(0), "(true)": truth(1),
		"count(x)": of(api.ExCount, "x", ""), "count ( x )": of(api.ExCount, "x", ""), "sum(x.v)": of(api.ExSum, "x", "v"), "min(x.v)": of(api.ExMin, "x", "v"), "max(x . v)": of(api.ExMax, "x", "v"),
		"((((((count(x)))))))": of(api.ExCount, "x", ""), "((((((sum(x.v)))))))": of(api.ExSum, "x", "v"), "((((((min(x.v)))))))": of(api.ExMin, "x", "v"), "((((((max(x.v)))))))": of(api.ExMax, "x", "v"),
		"x.v+1-3": sub(add(v, one), three), "x.v+(1-3)": add(v, sub(one, three)), "(x.v+1)-3": sub(add(v, one), three), "((x.v)+(1))-(3)": sub(add(v, one), three), "1-1-1-1": sub(sub(sub(one, one), one), one), "1-(1-(1-1))": sub(one, sub(one, sub(one, one))), "(1-1)-(1-1)": sub(sub(one, one), sub(one, one)),
		"1--1": sub(one, num(-1)), "1 - -1": sub(one, num(-1)), "1+-1": add(one, num(-1)), "-1-1": sub(num(-1), one), "1-(-1)": sub(one, num(-1)), "1-1": sub(one, one), "true+'a'": add(truth(1), text("a")),
		"1+1+1+1+1+1": add(add(add(add(add(one, one), one), one), one), one), "1-(1-(1-(1-(1-1))))": sub(one, sub(one, sub(one, sub(one, sub(one, one))))), "((((((1-1))))))": sub(one, one),
		"((((((1)))))) + ((((((3))))))": add(one, three), "(((1)))-(((3)))": sub(one, three), "count(x)+sum(x.v)": add(of(api.ExCount, "x", ""), of(api.ExSum, "x", "v")),
	} {
		for i, sides := range [][2]string{{"", " = 1"}, {"1 = ", ""}, {"1 = 1 and 1 != ", ""}} {
			q, e, at := tree.Parse("seq a x where " + sides[0] + s + sides[1] + " within 5")
			if e != api.OK || at != 0 {
				t.Errorf("%q: %v %d", s, e, at)
				continue
			}
			p := q.Preds[len(q.Preds)-1]
			got := []api.Expr{p.L, p.R, p.R}[i]
			if !same(asking(api.Pred{L: got}), asking(api.Pred{L: want})) {
				t.Errorf("%q: %v", s, got)
			}
			holds(t, "seq a x where "+sides[0]+s+sides[1]+" within 5")
		}
	}
}

// P8.1, H2: comparisons, picks and the rest, one by one.
func TestParts(t *testing.T) {
	for s, want := range map[string]int{"=": api.Eq, "!=": api.Ne, "<": api.Lt, "<=": api.Le, ">": api.Gt, ">=": api.Ge} {
		if q, e, _ := tree.Parse("seq a x where 1" + s + "1 within 5"); e != api.OK || q.Preds[0].Cmp != want {
			t.Error(s, e, q)
		}
	}
	for s, want := range map[string]int{"": api.Any, " pick any": api.Any, " pick next": api.Next, " pick strict": api.Strict} {
		for by, name := range map[string]string{"": "", " by y": "y", " by id": "id"} {
			if q, e, _ := tree.Parse("seq a x within 5" + by + s); e != api.OK || q.Pick != want || q.By != name {
				t.Error(s, by, e, q)
			}
		}
	}
	for s, want := range map[string]int64{"0": 0, "5": 5, "1099511627775": most - 1, "1099511627776": most} {
		if q, e, _ := tree.Parse("seq a x within " + s); e != api.OK || q.Within != want {
			t.Error(s, e, q)
		}
	}
	for s, want := range map[string]api.Item{"b y": item("b", "y", api.One), "b y+": item("b", "y", api.Plus), "b y +": item("b", "y", api.Plus), "b y?": item("b", "y", api.Opt), "not b y": none("b", "y"), "b or c or d y?": item("b or c or d", "y", api.Opt), "not b or c y": none("b or c", "y"), "y y": item("y", "y", api.One), "x y": item("x", "y", api.One)} {
		if q, e, _ := tree.Parse("seq a x then " + s + " within 5"); e != api.OK || !same(q, api.Query{Items: []api.Item{item("a", "x", api.One), want}, Within: 5, Pick: api.Any}) {
			t.Error(s, e, q)
		}
	}
}

// P8.1, H2: wrong texts, each with its error and its place.
func TestWrongTexts(t *testing.T) {
	for s, place := range map[string]int{
		"": 0, " ": 1, "\n\n ": 3, "x": 0, "  x": 2, "'seq'": 0, "1": 0, "=": 0, "then": 0, "seqs a x within 5": 0,
		"seq": 3, "seq ": 4, "seq a": 5, "seq a x": 7, "seq a x ": 8, "seq a x then": 12, "seq a or": 8, "seq a or b": 10, "seq not": 7, "seq a x where": 13, "seq a x within": 14, "seq a x within 5 by": 19, "seq a x within 5 pick": 21,
		"seq seq": 4, "seq then": 4, "seq 'a' x": 4, "seq a 'x'": 6, "seq 1": 4, "seq not not a x": 8, "seq a not x": 6, "seq a x y": 8, "seq a x or": 8, "seq or x": 4, "seq a or or": 9, "seq a or b or": 13, "seq a then": 6, "seq a by": 6, "seq by x": 4, "seq a or not b x": 9,
		"seq a x++": 8, "seq a x+?": 8, "seq a x??": 8, "seq a+ x": 5, "seq a x-": 7, "seq a x=": 7, "seq a x then then": 13, "seq a x then where": 13, "seq a x then within 5": 13, "seq a x, b y": -1,
		"seq a x where where": 14, "seq a x where within 5": 14, "seq a x where 1": 15, "seq a x where 1 within 5": 16, "seq a x where 1 =": 17, "seq a x where 1 = within 5": 18, "seq a x where = 1": 14, "seq a x where 1 = 1 = 1": 20, "seq a x where 1 = = 1": 18, "seq a x where 1 1": 16, "seq a x where 1 and 1 = 1": 16, "seq a x where 1 = 1 and": 23, "seq a x where 1 = 1 and within 5": 24, "seq a x where 1 = 1 and and": 24, "seq a x where 1 = 1 where": 20, "seq a x where 1 = 1 or 1 = 1": 20, "seq a x where 1 '=' 1": 16, "seq a x where not 1 = 1": 14,
		"seq a x where x": 15, "seq a x where x = 1": 16, "seq a x where x.": 16, "seq a x where x. = 1": 17, "seq a x where x.1": 16, "seq a x where x.sum": 16, "seq a x where sum.x": 17, "seq a x where .x": 14, "seq a x where x.v.w": 17, "seq a x where x.'v'": 16, "seq a x where x-1": 15, "seq a x where (x) = 1": 16,
		"seq a x where -x.v": 15, "seq a x where --1": 15, "seq a x where -(1)": 15, "seq a x where +1": 14, "seq a x where -'1'": 15, "seq a x where -true": 15, "seq a x where -": 15, "seq a x where 1+": 16, "seq a x where 1+ = 1": 17, "seq a x where 1++1": 16, "seq a x where 1-+1": 16, "seq a x where 1---1": 17,
		"seq a x where count": 19, "seq a x where count x": 20, "seq a x where count()": 20, "seq a x where count(x": 21, "seq a x where count(x.v)": 21, "seq a x where count((x))": 20, "seq a x where count(1)": 20, "seq a x where count(max)": 20, "seq a x where count(x y)": 22, "seq a x where count.x": 19, "seq a x where count('x')": 20,
		"seq a x where sum": 17, "seq a x where sum x.v": 18, "seq a x where sum()": 18, "seq a x where sum(x)": 19, "seq a x where sum(x.)": 20, "seq a x where sum(x.v": 21, "seq a x where sum(x.v.w)": 21, "seq a x where sum((x.v))": 18, "seq a x where sum(x.v+1)": 21, "seq a x where min(1)": 18, "seq a x where max(count(x))": 18, "seq a x where min(x.v, 1)": -1,
		"seq a x where ()": 15, "seq a x where (": 15, "seq a x where (1": 16, "seq a x where (1 = 1)": 17, "seq a x where 1) = 1": 15, "seq a x where (1)) = 1": 17, "seq a x where ((1) = 1": 19, "seq a x where (1 1)": 17, "seq a x where (within": 15,
		"seq a x within x": 15, "seq a x within -5": 15, "seq a x within '5'": 15, "seq a x within (5)": 15, "seq a x within by id": 15, "seq a x within 5 5": 17, "seq a x within 5 x": 17, "seq a x within 5 where 1 = 1": 17, "seq a x within 5 within 5": 17, "seq a x within 5 +": 17, "seq a x within 1.5": 16,
		"seq a x within 5 by 5": 20, "seq a x within 5 by by": 20, "seq a x within 5 by 'id'": 20, "seq a x within 5 by id id": 23, "seq a x within 5 by id by id": 23, "seq a x within 5 by x.id": 21, "seq a x within 5 by pick": 20, "seq a x within 5 by id.x": 22,
		"seq a x within 5 pick x": 22, "seq a x within 5 pick pick": 22, "seq a x within 5 pick 1": 22, "seq a x within 5 pick 'any'": 22, "seq a x within 5 pick any any": 26, "seq a x within 5 pick next by id": 27, "seq a x within 5 pick strict ": -2, "seq a x pick any": 8, "seq a x by id": 8,
	} {
		switch place {
		case -1: // it has no such tokens
			fails(t, s, api.ErrLex, strings.Index(s, ","))
		case -2:
			holds(t, s)
		default:
			fails(t, s, api.ErrParse, place)
		}
	}
}

// P8.1, H2: brackets stand in one another six deep, and no deeper, whatever is in them.
func TestBrackets(t *testing.T) {
	open, shut := strings.Repeat("(", 20), strings.Repeat(")", 20)
	for n := range 13 {
		for _, inside := range []string{"1", "x.v", "x", "", "-1", "'a'", "true", "count(x)", "sum(x.v)", "min(x.v)", "max(x.v)", "1+1", "x.v = 1", "seq", "count((x))", "sum((x.v))", "max", ")"} {
			for _, ahead := range []string{"", "1 = ", "((1)) + ", "((((((1)))))) = ", "count(x) = ", "sum(x.v) - (max(x.w)) != "} {
				for _, behind := range []string{" = 1 within 5", " within 5", "", " - ((((((1)))))) = 1 within 5"} {
					for closed := max(0, n-1); closed <= n+1; closed++ {
						s := "seq a x where " + ahead + open[:n] + inside + shut[:closed] + behind
						holds(t, s)
						if n > 6 {
							fails(t, s, api.ErrParse, len("seq a x where "+ahead)+6)
						}
					}
				}
			}
		}
	}
	fails(t, "seq a x where ((((((x)))))) = 1 within 5", api.ErrParse, 21)
	fails(t, "seq a x where (((((((x))))))) = 1 within 5", api.ErrParse, 20)
	fails(t, "seq a x where (1 + (1 + (1 + (1 + (1 + (1 + (1 = 1 within 5", api.ErrParse, 44)
	fails(t, "seq a x where ((((((1)))))) + (((((((1))))))) = 1 within 5", api.ErrParse, 36)
	// Brackets that are shut do not count.
	row := strings.TrimSuffix(strings.Repeat("((((((1)))))) + ", 6), " + ")
	if _, e, at := tree.Parse("seq a x where " + row + " = " + row + " within 5"); e != api.ErrTooMany || at == 0 {
		t.Error(e, at) // of lex: there are too many tokens
	}
	row = strings.TrimSuffix(strings.Repeat("((((((1)))))) + ", 4), " + ")
	if q, e, at := tree.Parse("seq a x where " + row + " = " + row + " within 5"); e != api.OK || at != 0 || tree.Deep(q.Preds[0].R) != 4 {
		t.Error(e, at)
	}
}

// P8.1, H2: what lex refuses has its error, wherever else it is wrong.
func TestRefused(t *testing.T) {
	for _, s := range []string{";", "seq ; x", "then ;", "seq a x within 01", "seq a x within 1099511627777", "seq a x where 'a = 1 within 5", "seq a x where (((((((1;", "seq A x", "a\t", "seq a x within 5 !", strings.Repeat("a", 17), baseText + " _", strings.Repeat("a ", 129), strings.Repeat("(", 129), "seq a x within 5 pick any" + strings.Repeat(" a", 128), strings.Repeat(" ", 513), baseText + strings.Repeat(" ", 512)} {
		_, want, place := lex.Read(s)
		if q, e, at := tree.Parse(s); e == api.OK || e != want || at != place || !same(q, api.Query{}) {
			t.Errorf("%.99q: got %v %d, want %v %d", s, e, at, want, place)
		}
	}
	fails(t, "seq a x within 5 ;", api.ErrLex, 17)
	fails(t, "then ;", api.ErrLex, 5)
	fails(t, strings.Repeat("a ", 129), api.ErrTooMany, 256)
	fails(t, strings.Repeat("; ", 257), api.ErrTooMany, 0)
}

// bases are texts that have all that one can have.
func bases() []string {
	return []string{
		baseText, "seq a x within 5", "seq a x then b y+ within 5 pick strict", "seq a or b or c x then d y where (1 - (x.v + 2)) - 3 > 'a' within 0 by id", "seq a x where count(x) + -1 != sum(x.v) - min(x.v) and true = (false) within 9 pick any",
	}
}

// tokens are some of all kinds.
func tokens() []string {
	return append(strings.Fields(keys), "a", "x", "zz", "0", "5", "''", "'a'", "'seq'", "=", "!=", "<", "<=", ">", ">=", "+", "-", "(", ")", ".", "?")
}

// P8.1, H2 and P8.3: texts that lack a token, have one more, or another one, or two that are turned about, at each place.
func TestEachPlace(t *testing.T) {
	for _, base := range bases() {
		l, _, _ := lex.Read(base)
		all := make([]string, len(l))
		for i, k := range l {
			all[i] = bytesOf(k)
		}
		text := func(l ...[]string) string {
			var row []string
			for _, k := range l {
				row = append(row, k...)
			}
			return strings.Join(row, " ")
		}
		for i := range len(all) + 1 {
			holds(t, text(all[:i]))
			holds(t, "  \n"+text(all[:i])+" \n ")
			holds(t, text(all[i:]))
			for _, k := range tokens() {
				one := []string{k}
				holds(t, text(all[:i], one))
				holds(t, text(all[:i], one, all[i:]))
				holds(t, "\n "+text(all[:i], one, all[i:])+"  ")
				holds(t, text(all[:i], one, all[min(i+1, len(all)):]))
				for _, m := range tokens() {
					holds(t, text(all[:i], one, []string{m}))
				}
			}
			if i < len(all) {
				holds(t, text(all[:i], all[i+1:]))
				holds(t, text(all[:i+1], all[i:]))
			}
			if i+1 < len(all) {
				holds(t, text(all[:i], all[i+1:i+2], all[i:i+1], all[i+2:]))
			}
		}
	}
}

// P8.1, H2 and P8.3: bytes that are cut, doubled or changed at each place.
func TestEachByte(t *testing.T) {
	for _, base := range bases() {
		for i := range len(base) + 1 {
			holds(t, base[:i])
			holds(t, base[i:])
			for _, c := range []string{" ", "\n", "a", "0", "'", "(", ")", "-", "+", "=", ".", ";", "\xff", "_"} {
				holds(t, base[:i]+c+base[i:])
				holds(t, base[:i]+c+base[min(i+1, len(base)):])
			}
		}
	}
}

// P8.1, H2 and P8.3: thrown tokens, that begin as a query does.
func TestThrownTokens(t *testing.T) {
	r := dice(8888)
	for range 20000 {
		l := strings.Fields(r.among(append(bases(), "seq a x where", "seq a x where 1 = (", "seq")...))
		l = l[:len(l)-r.below(len(l))]
		for range r.below(9) {
			l = append(l, r.among(tokens()...))
		}
		holds(t, strings.Join(l, " "))
	}
}
