package nfa_test

import (
	"slices"
	"strings"
	"testing"

	"augury/api"
	"augury/nfa"
	"augury/tree"
)

// accepted are queries' items, and rows of names that they accept, and such that they do not.
var accepted = map[string]struct{ yes, no []string }{
	// No names, one less and one more than may be, names that no item has.
	"a x":                             {[]string{"a"}, []string{"", "b", "a a", "a b", "b a", "x", "aa"}},
	"a x then b y":                    {[]string{"a b"}, []string{"", "a", "b", "b a", "a a", "b b", "a b b", "a a b", "a b a", "a c", "c b", "a c b", "a b c", "c a b"}},
	"a x then b y then c z":           {[]string{"a b c"}, []string{"", "a b", "b c", "a c", "a b c c", "a a b c", "c b a", "a b d", "d b c", "a d c"}},
	"a or b x":                        {[]string{"a", "b"}, []string{"", "a b", "b a", "a a", "c"}},
	"a or b or c x then c or d y":     {[]string{"a c", "b c", "c c", "a d", "b d", "c d"}, []string{"", "c", "d c", "d d", "a a", "c b", "c c c", "c d d"}},
	"a x then a y then a z":           {[]string{"a a a"}, []string{"", "a", "a a", "a a a a", "a a b", "b a a"}},
	"a x then not b n":                {[]string{"a"}, []string{"", "b", "a b", "a a", "b a"}},
	"a x then not a n then a y":       {[]string{"a a"}, []string{"", "a", "a a a"}},
	"a x then not b n then c y":       {[]string{"a c"}, []string{"", "a", "c", "a b", "a b c", "b c", "a c b", "a c c"}},
	"a x then not b n then not c m":   {[]string{"a"}, []string{"", "a b", "a c", "a b c", "a a"}},
	"a x then not b n then b y":       {[]string{"a b"}, []string{"", "a", "b", "a b b", "a a b"}},
	"a u then b v? then c w then a x": {[]string{"a c a", "a b c a"}, []string{"", "a b c", "a c", "a b a", "a b b c a", "a c b a", "a a"}},
	// A Plus once, twice, many times: first, between, last; with Nots and Opts behind it.
	"a x+":                                           {[]string{"a", "a a", "a a a a a a a a"}, []string{"", "b", "a b", "b a", "a a a b", "a b a"}},
	"a x+ then b y":                                  {[]string{"a b", "a a b", "a a a a a b"}, []string{"", "a", "b", "a a", "a b b", "a b a", "a a b a", "b a"}},
	"a x then b y+":                                  {[]string{"a b", "a b b", "a b b b b b"}, []string{"", "a", "b", "a a b", "a b a", "a b b a", "b b"}},
	"a x then b y+ then c z":                         {[]string{"a b c", "a b b c", "a b b b b c"}, []string{"", "a c", "a b", "a b b", "a b c b c", "a b c c", "a b c b"}},
	"a x+ then b y+":                                 {[]string{"a b", "a a b", "a b b", "a a a b b b"}, []string{"", "a", "b", "a a", "b b", "a b a", "a b a b", "b a"}},
	"a x+ then a y":                                  {[]string{"a a", "a a a", "a a a a a"}, []string{"", "a", "a a b", "b a"}},
	"a x+ then a y+ then a z":                        {[]string{"a a a", "a a a a", "a a a a a a a"}, []string{"", "a", "a a", "a a a b"}},
	"a or b x+":                                      {[]string{"a", "b", "a b", "b a", "a b a b b a a"}, []string{"", "c", "a c", "a b c", "c a b"}},
	"a or b x+ then b or c y+":                       {[]string{"a b", "a c", "b b", "b c", "a b c", "b a b c b", "b b b b", "a b a c c"}, []string{"", "a", "b", "c", "b a", "c b", "a c a", "a c b a"}},
	"a x+ then not b n then c y":                     {[]string{"a c", "a a c", "a a a a c"}, []string{"", "a", "a a", "a b c", "a a b c", "a c c", "a c a"}},
	"a x+ then not a n then b y":                     {[]string{"a b", "a a b", "a a a b"}, []string{"", "a", "a a", "b", "a b a"}},
	"a x+ then not b n":                              {[]string{"a", "a a", "a a a a"}, []string{"", "b", "a b", "a a b", "a b a"}},
	"a x+ then b y? then c z":                        {[]string{"a c", "a b c", "a a c", "a a a b c"}, []string{"", "a", "a b", "a a b", "a b b c", "a b a c", "b c", "a a"}},
	"a x+ then b y?":                                 {[]string{"a", "a b", "a a", "a a a b"}, []string{"", "b", "a b b", "a b a", "a a b a"}},
	"a x+ then a y?":                                 {[]string{"a", "a a", "a a a a"}, []string{"", "b", "a b", "a a b"}},
	"a x then b y+ then not c n then d z?":           {[]string{"a b", "a b b", "a b d", "a b b b d"}, []string{"", "a", "a d", "a b c", "a b c d", "a b d d", "a b d b"}},
	"a x+ then not b n then c y? then not d m":       {[]string{"a", "a a", "a c", "a a a c"}, []string{"", "c", "a b", "a d", "a b c", "a c d", "a c c", "a c a"}},
	"a x+ then not b n then c y? then d z+":          {[]string{"a d", "a a d", "a c d", "a a c d d", "a d d d"}, []string{"", "a", "a c", "a b d", "a c c d", "a d c", "a d a", "a c d c d", "d"}},
	"a x then b y+ then c z? then b w":               {[]string{"a b b", "a b c b", "a b b b", "a b b b c b"}, []string{"", "a b", "a c b", "a b c", "a b b c", "a b c b b", "a b c c b"}},
	"a x then b y+ then not c n then b w+":           {[]string{"a b b", "a b b b b"}, []string{"", "a", "a b", "a b c b", "a b b a"}},
	"a x+ then b y? then not c n then a z then d w?": {[]string{"a a", "a b a", "a a a", "a a b a d", "a a d"}, []string{"", "a", "a b", "a d", "a b d", "a b b a", "a b c a", "a b a a", "a b a d d"}},
	// Opts that are passed over: first, in the middle, last.
	"a x then b y? then c z? then d w? then e v": {
		[]string{"a e", "a b e", "a c e", "a d e", "a b c e", "a b d e", "a c d e", "a b c d e"},
		[]string{"", "a", "e", "a b", "a b c d", "a c b e", "a d c e", "a d b e", "a b b e", "a e e", "a e b", "b e", "a b c d e e"},
	},
	"a x then b y? then c z? then d w?": {
		[]string{"a", "a b", "a c", "a d", "a b c", "a b d", "a c d", "a b c d"},
		[]string{"", "b", "a a", "a c b", "a d c", "a d b", "a b b", "a b c d d", "a b c d a", "b c d"},
	},
	"a x then a y? then a z?":                    {[]string{"a", "a a", "a a a"}, []string{"", "a a a a", "b", "a b", "a a b"}},
	"a x then a y? then b z? then a w":           {[]string{"a a", "a a a", "a b a", "a a b a"}, []string{"", "a", "a b", "a a b", "a a a a", "a b b a", "a b a a"}},
	"a x then a or b y? then b or c z? then c w": {[]string{"a c", "a a c", "a b c", "a c c", "a a b c", "a b b c", "a b c c", "a a c c"}, []string{"", "a", "a b", "a b b", "a b a c", "a b b b c", "a c c c", "a a a c", "a b c c c", "a c a c"}},
	// The bounds of a query: six items, of three names each.
	"a or b or c u+ then b or c or d v? then not c n then c or d or e w? then d or e or f x then e or f or g y+": {
		[]string{"a d e", "c d d d e", "a b c d e", "c c c d e", "a d e f e", "b f g g g", "a a d e d g", "a b c c e f e g"},
		[]string{"", "a", "a b c", "d d e", "a d e d", "a g g", "a d d d d e", "c c c c", "a e a e", "a d e h"},
	},
}

// P12.1: L2, of the rows of names that the table tells.
func TestAccepts(t *testing.T) {
	for items, c := range accepted {
		q := pattern(t, items)
		for _, s := range c.yes {
			accepts(t, q, strings.Fields(s), true)
		}
		for _, s := range c.no {
			accepts(t, q, strings.Fields(s), false)
		}
	}
}

// allRows holds all rows of names, up to so many, of a query against the sketch, and against an expression of letters.
func allRows(t *testing.T, q api.Query, l [][]string, many map[bool]int) {
	t.Helper()
	x := expression(q)
	for _, names := range l {
		want := sketchAccepts(q, names)
		if other := x.MatchString(strings.Join(names, "")); other != want {
			t.Fatalf("%s: the sketch is wrong of %q", tree.Print(q), names)
		}
		accepts(t, q, names, want)
		many[want]++
	}
	if t.Failed() {
		t.FailNow()
	}
}

// P12.1: L2, of all kinds of up to three items, every short row of names.
func TestAllRows(t *testing.T) {
	many := map[bool]int{}
	l := rows(5, "a", "b", "c", "z")
	for items := 1; items <= 3; items++ {
		for _, shape := range shapes(items) {
			for _, names := range [][][]string{each("abc"), each("aaa"), each("aab"), each("aba"), each("abb"), {{"a", "b"}, {"b", "c"}, {"c", "a"}}, {{"a", "b", "c"}}, {{"b"}, {"a", "c"}, {"c", "b", "a"}}} {
				allRows(t, shaped(shape, names...), l, many)
			}
		}
	}
	if many[true] < 3000 || many[false] < 3000 {
		t.Error("too few", many)
	}
}

// P12.1: L2, of all kinds of as many items as may be, every short row of names.
func TestManyRows(t *testing.T) {
	many := map[bool]int{}
	l, long := rows(5, "a", "b"), rows(9, "a")
	for items := 4; items <= api.MaxItems; items++ {
		for _, shape := range shapes(items) {
			allRows(t, shaped(shape, each("ab")...), l, many)
			allRows(t, shaped(shape, []string{"b", "a"}, []string{"b"}, []string{"a"}), l, many)
			allRows(t, shaped(shape, []string{"a"}), long, many)
		}
	}
	if many[true] < 3000 || many[false] < 3000 {
		t.Error("too few", many)
	}
}

// P12.1: L2, of thrown queries, rows that are accepted, and such that are nearly.
func TestThrownRows(t *testing.T) {
	r := dice(122)
	many := map[bool]int{}
	for range 20000 {
		q := r.query()
		var l [][]string
		for range 4 {
			l = append(l, r.row(q))
		}
		allRows(t, q, l, many)
	}
	if many[true] < 3000 || many[false] < 3000 {
		t.Error("too few", many)
	}
}

// P12.1: L2, Guards, predicates, time, and what is picked are not looked at.
func TestNotLookedAt(t *testing.T) {
	for _, text := range []string{
		"seq a x then not b n then c y within 5", "seq a x then not a or c or b n then c y within 0 pick strict", "seq a x then not c n then c y within 5 by v pick next",
		"seq a x then not b n then c y where 1 = 2 and x.v > y.v and n.v != n.v within 5", "seq a x then c y then not a or c n within 5", "seq a x then c y where count(x) > 1 within 0",
	} {
		q := parsed(t, text)
		for _, names := range rows(4, "a", "b", "c") {
			accepts(t, q, names, slices.Equal(names, []string{"a", "c"}))
		}
	}
}

// P12.1: L2, names are as they are: no part of one, no other letters, and no variables.
func TestOtherNames(t *testing.T) {
	q := pattern(t, "ab x then not bc n then cd or e y?")
	for _, s := range []string{"", " ", "a", "b", "abc", "AB", "Ab", " ab", "ab ", "x", "y", "bc", "cd", "e", "seq", "ab\x00", "\xff", "ab cd", strings.Repeat("ab", 99)} {
		accepts(t, q, []string{s}, false)
		accepts(t, q, []string{"ab", s}, s == "cd" || s == "e")
		accepts(t, q, []string{s, "ab"}, false)
		accepts(t, q, []string{"ab", s, "cd"}, false)
		accepts(t, q, []string{"ab", "e", s}, false)
	}
	accepts(t, q, []string{"ab"}, true)
}

// P12.1: L2, rows of very many names, of which one alone, anywhere, is another one.
func TestManyNames(t *testing.T) {
	const many = 1 << 20
	row := func(ahead, name, behind string) []string {
		l := slices.Repeat([]string{name}, many)
		return append(append(strings.Fields(ahead), l...), strings.Fields(behind)...)
	}
	one := pattern(t, "a x+")
	accepts(t, one, row("", "a", ""), true)
	accepts(t, one, row("", "a", "b"), false)
	accepts(t, one, row("b", "a", ""), false)
	broken := row("", "a", "")
	broken[many/2] = "b"
	accepts(t, one, broken, false)
	six := pattern(t, "a u then b v? then a or b w+ then not c n then b or a x+ then a y+")
	accepts(t, six, row("a", "a", "a"), true)
	accepts(t, six, row("a", "b", "a"), true)
	accepts(t, six, row("a b", "a", ""), true)
	accepts(t, six, row("a", "b", ""), false)
	accepts(t, six, row("b", "a", ""), false)
	accepts(t, six, row("a", "b", "c a"), false)
	none := pattern(t, "a x then a y? then a z?")
	accepts(t, none, row("", "a", ""), false)
	// More ways than can be gone one by one.
	all := pattern(t, "a u+ then a v+ then a w+ then a x+ then a y+ then a z+")
	accepts(t, all, row("", "a", ""), true)
	accepts(t, all, row("", "a", "b"), false)
	if !nfa.Accepts(all, slices.Repeat([]string{"a"}, 6)) || nfa.Accepts(all, slices.Repeat([]string{"a"}, 5)) {
		t.Error("six, and five")
	}
}
