package nfa_test

import (
	"regexp"
	"slices"
	"strconv"
	"strings"
	"testing"

	"augury/api"
	"augury/nfa"
	"augury/tree"
)

// parsed is the query of a text.
func parsed(t *testing.T, text string) api.Query {
	t.Helper()
	q, e, at := tree.Parse(text)
	if e != api.OK {
		t.Fatalf("%q: %v at %d", text, e, at)
	}
	return q
}

// pattern is the query of those items.
func pattern(t *testing.T, items string) api.Query {
	t.Helper()
	return parsed(t, "seq "+items+" within 5")
}

// told are states, each its Next, then its Guards, then whether it is Final: `0 2 !1 .`.
func told(l []api.State) string {
	var states []string
	for _, s := range l {
		var words []string
		for _, n := range s.Next {
			words = append(words, strconv.Itoa(n))
		}
		for _, n := range s.Guards {
			words = append(words, "!"+strconv.Itoa(n))
		}
		if s.Final {
			words = append(words, ".")
		}
		states = append(states, strings.Join(words, " "))
	}
	return strings.Join(states, " | ")
}

// sketchStates are what the document's words say of a right query's states.
func sketchStates(q api.Query) []api.State {
	l := []api.State{{Next: []int{0}}}
	for k, own := range q.Items {
		s := api.State{Final: true}
		if own.Mode == api.Plus {
			s.Next = []int{k}
		}
		ended := false
		for n, it := range q.Items {
			if n <= k {
				continue
			}
			if !it.Not && it.Mode != api.Opt {
				s.Final = false
			}
			if ended {
				continue
			}
			if it.Not {
				s.Guards = append(s.Guards, n)
			} else {
				s.Next = append(s.Next, n)
				ended = it.Mode != api.Opt
			}
		}
		l = append(l, s)
	}
	return l
}

// sketchAccepts is what the document's words say of a right query, way by way.
func sketchAccepts(q api.Query, names []string) bool {
	states := sketchStates(q)
	var way func(at int, names []string) bool
	way = func(at int, names []string) bool {
		if len(names) == 0 {
			return states[at].Final
		}
		for _, item := range states[at].Next {
			if slices.Contains(q.Items[item].Names, names[0]) && way(item+1, names[1:]) {
				return true
			}
		}
		return false
	}
	return way(0, names)
}

// expression is a right query whose names have one letter each, as an expression of these: what its
// items may take, one behind the other.
func expression(q api.Query) *regexp.Regexp {
	s := "^"
	for _, it := range q.Items {
		if !it.Not {
			s += "[" + strings.Join(it.Names, "") + "]" + []string{api.One: "", api.Plus: "+", api.Opt: "?"}[it.Mode]
		}
	}
	return regexp.MustCompile(s + "$")
}

// kinds are those of items: One, Plus, Opt, Not.
const kinds = "1+?!"

// shaped is a query of items of those kinds, of those names.
func shaped(shape string, names ...[]string) api.Query {
	q := api.Query{Within: 5, Pick: api.Any}
	for at, kind := range []byte(shape) {
		it := api.Item{Names: names[at%len(names)], Var: "v" + strconv.Itoa(at), Mode: api.One}
		switch kind {
		case '+':
			it.Mode = api.Plus
		case '?':
			it.Mode = api.Opt
		case '!':
			it.Not = true
		}
		q.Items = append(q.Items, it)
	}
	return q
}

// shapes are all rows of so many kinds with which a right query may have its items.
func shapes(many int) []string {
	l := []string{"1", "+"}
	for range many - 1 {
		var longer []string
		for _, s := range l {
			for _, kind := range kinds {
				longer = append(longer, s+string(kind))
			}
		}
		l = longer
	}
	return l
}

// rows are all of so many names at most, of those.
func rows(most int, names ...string) [][]string {
	l := [][]string{nil}
	from := 0
	for range most {
		to := len(l)
		for _, row := range l[from:to] {
			for _, name := range names {
				l = append(l, append(slices.Clone(row), name))
			}
		}
		from = to
	}
	return l
}

// each is each letter, as the one name of an item.
func each(letters string) [][]string {
	var l [][]string
	for _, s := range strings.Split(letters, "") {
		l = append(l, []string{s})
	}
	return l
}

// accepts asks for one row of names.
func accepts(t *testing.T, q api.Query, names []string, want bool) {
	t.Helper()
	if got := nfa.Accepts(q, names); got != want {
		t.Errorf("%s: %v of %.99q, %d in all", tree.Print(q), got, names[:min(len(names), 20)], len(names))
	}
}

// dice are numbers that look like thrown ones, the same ones each time.
type dice uint64

func (r *dice) below(n int) int {
	*r = *r*6364136223846793005 + 1442695040888963407
	return int(uint64(*r) >> 33 % uint64(n))
}

// query is a right one, of up to six items, of names of one letter.
func (r *dice) query() api.Query {
	var names [][]string
	shape := kinds[:2][r.below(2):][:1]
	for at := range 1 + r.below(api.MaxItems) {
		letters := strings.Split("abcde", "")
		from := r.below(len(letters))
		letters = append(letters[from:], letters[:from]...)
		names = append(names, letters[:1+r.below(1+r.below(api.MaxNames))])
		if at > 0 {
			shape += kinds[r.below(len(kinds)):][:1]
		}
	}
	return shaped(shape, names...)
}

// whole is a row that a query of those items accepts.
func (r *dice) whole(q api.Query) []string {
	var l []string
	for _, it := range q.Items {
		many := 1
		switch {
		case it.Not:
			many = 0
		case it.Mode == api.Plus:
			many = 1 + r.below(4)
		case it.Mode == api.Opt:
			many = r.below(2)
		}
		for range many {
			l = append(l, it.Names[r.below(len(it.Names))])
		}
	}
	return l
}

// row is one that a right query accepts, more often than not.
func (r *dice) row(q api.Query) []string {
	l := r.whole(q)
	if r.below(3) > 0 {
		return l
	}
	at := r.below(len(l))
	switch r.below(4) {
	case 0:
		return slices.Delete(l, at, at+1)
	case 1:
		return slices.Insert(l, at, l[r.below(len(l))])
	case 2:
		l[at] = "z"
	default:
		l[at] = l[r.below(len(l))]
	}
	return l
}
