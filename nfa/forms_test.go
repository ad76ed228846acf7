package nfa_test

import (
	"slices"
	"strings"
	"testing"

	"augury/api"
	"augury/nfa"
	"augury/tree"
)

// rising asks for places that rise, none twice.
func rising(l []int) bool {
	return slices.IsSorted(l) && len(slices.Compact(slices.Clone(l))) == len(l)
}

// wellFormed asks of each of a query's states what P12.2 says.
func wellFormed(t *testing.T, q api.Query) {
	t.Helper()
	for n, s := range nfa.Compile(q) {
		own := n - 1
		fails := !rising(s.Next) || !rising(s.Guards)
		for _, at := range s.Next {
			if at < own || at >= len(q.Items) || q.Items[at].Not || at == own && q.Items[at].Mode != api.Plus {
				fails = true
			}
			if s.Final && at != own && q.Items[at].Mode != api.Opt {
				fails = true
			}
		}
		for _, at := range s.Guards {
			if at <= own || at >= len(q.Items) || !q.Items[at].Not {
				fails = true
			}
		}
		if fails {
			t.Errorf("%s: %d: %v", tree.Print(q), n, s)
		}
	}
}

// P12.2: of all kinds of items that a right query may have.
func TestWellFormed(t *testing.T) {
	for many := 1; many <= api.MaxItems; many++ {
		for _, shape := range shapes(many) {
			wellFormed(t, shaped(shape, each("abcdef")...))
			wellFormed(t, shaped(shape, []string{"a"}))
		}
	}
}

// P12.2: of the table's queries, with what each promises there; some states there are of each sort.
func TestSorts(t *testing.T) {
	many := map[string]int{}
	for items := range compiled {
		q := pattern(t, items)
		wellFormed(t, q)
		for n, s := range nfa.Compile(q) {
			own := slices.Contains(s.Next, n-1)
			switch {
			case s.Final && own && len(s.Next) > 1:
				many["final, itself and Opts"]++
			case s.Final && own:
				many["final, itself"]++
			case s.Final && len(s.Next) > 0:
				many["final, Opts"]++
			case s.Final:
				many["final, nothing"]++
			case own:
				many["itself"]++
			default:
				many["behind it"]++
			}
			if len(s.Guards) > 1 {
				many["guards"]++
			}
		}
	}
	for _, s := range []string{"final, itself and Opts", "final, itself", "final, Opts", "final, nothing", "itself", "behind it", "guards"} {
		if many[s] < 2 {
			t.Error("too few of", s, many)
		}
	}
}

// P12.3: of items that are all One, just the rows of as many names, each of its item's, are accepted.
func TestOnesAlone(t *testing.T) {
	for many := 1; many <= api.MaxItems; many++ {
		for _, names := range [][][]string{each("abcabc"), each("aaaaaa"), {{"a", "b"}}, {{"a", "b"}, {"c"}, {"b", "c"}, {"a"}}, {{"b", "a", "c"}, {"c", "b"}}} {
			q := shaped(strings.Repeat("1", many), names...)
			for _, row := range rows(api.MaxItems+1, "a", "b", "c") {
				want := len(row) == many
				for at := range row {
					want = want && slices.Contains(q.Items[at].Names, row[at])
				}
				accepts(t, q, row, want)
			}
		}
	}
}

// again is whether a row is accepted, and, if so, is so with each of a Plus's names put once more behind what that took last.
func again(t *testing.T, q api.Query, plus, last int, row []string) bool {
	t.Helper()
	if !nfa.Accepts(q, row) {
		return false
	}
	for _, name := range q.Items[plus].Names {
		longer := slices.Insert(slices.Clone(row), last+1, name)
		accepts(t, q, longer, true)
		accepts(t, q, slices.Insert(longer, last+1, name, name), true)
	}
	return true
}

// P12.3: a Plus takes once more what it took last, wherever it is, and whatever is behind it.
func TestPlusAgain(t *testing.T) {
	r := dice(123)
	many := 0
	for range 20000 {
		q := r.query()
		plus := slices.IndexFunc(q.Items, func(it api.Item) bool { return it.Mode == api.Plus })
		if plus < 0 {
			continue
		}
		ahead, behind := q, q
		ahead.Items, behind.Items = q.Items[:plus], q.Items[plus+1:]
		row := r.whole(ahead)
		last := len(row)
		row = append(row, q.Items[plus].Names[r.below(len(q.Items[plus].Names))])
		if !again(t, q, plus, last, append(row, r.whole(behind)...)) {
			t.Fatalf("%s: %q", tree.Print(q), row)
		}
		many++
	}
	if many < 3000 {
		t.Error("too few", many)
	}
}

// P12.3: without a Plus nothing is taken once more, if no other item has its name.
func TestNoneAgain(t *testing.T) {
	for many := 1; many <= api.MaxItems; many++ {
		for _, shape := range shapes(many) {
			q := shaped(shape, each("abcdef")...)
			var row []string
			for _, it := range q.Items {
				if !it.Not {
					row = append(row, it.Names[0])
				}
			}
			accepts(t, q, row, true)
			for at, name := range row {
				item := slices.IndexFunc(q.Items, func(it api.Item) bool { return it.Names[0] == name })
				accepts(t, q, slices.Insert(slices.Clone(row), at, name), q.Items[item].Mode == api.Plus)
				accepts(t, q, slices.Delete(slices.Clone(row), at, at+1), q.Items[item].Mode == api.Opt)
			}
		}
	}
}
