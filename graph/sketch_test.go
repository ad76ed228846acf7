package graph_test

import (
	"fmt"
	"math"
	"slices"
	"strconv"
	"strings"
	"testing"

	"augury/api"
	"augury/event"
	"augury/graph"
	"augury/lex"
	"augury/timeline"
	"augury/tree"
)

// parsed is the query of a text, without `seq` and `within`.
func parsed(t *testing.T, text string) api.Query {
	t.Helper()
	q, e, at := tree.Parse("seq " + text + " within 5")
	if e != api.OK {
		t.Fatalf("%q: %v at %d", text, e, at)
	}
	return q
}

// drop is that of a time.
func drop(from int64) api.Version { return api.Version{From: from, Drop: true} }

// version is that of a text: when it begins, and its query, or `drop`: `5 a x`, `9 drop`.
func version(t *testing.T, s string) api.Version {
	t.Helper()
	from, text, _ := strings.Cut(s, " ")
	n, err := strconv.ParseInt(from, 10, 64)
	if err != nil {
		t.Fatal(err)
	}
	if text == "drop" {
		return drop(n)
	}
	return api.Version{From: n, Query: parsed(t, text)}
}

// entries are those of a text, with `; ` between, each a name and its versions, with ` | ` between: `p = 0 a x; q = 0 p x | 5 drop`.
func entries(t *testing.T, s string) []api.Entry {
	t.Helper()
	var l []api.Entry
	for _, w := range strings.Split(s, "; ") {
		name, text, _ := strings.Cut(w, " = ")
		x := api.Entry{Name: name}
		for _, v := range strings.Split(text, " | ") {
			x.Versions = append(x.Versions, version(t, v))
		}
		l = append(l, x)
	}
	return l
}

// item is one of some names.
func item(at int, names ...string) api.Item {
	return api.Item{Names: names, Var: "v" + strconv.Itoa(at), Mode: api.One}
}

// reader is an entry of one version, that has these names.
func reader(name string, names ...string) api.Entry {
	q := api.Query{Items: []api.Item{item(0, "other")}, Pick: api.Any}
	for some := range slices.Chunk(names, api.MaxNames) {
		q.Items = append(q.Items, item(len(q.Items), some...))
	}
	return api.Entry{Name: name, Versions: []api.Version{{Query: q}}}
}

// reading are entries of names of one letter, each with the names that it reads behind a colon: `p q:p r:pq`.
func reading(s string) []api.Entry {
	var l []api.Entry
	for _, w := range strings.Fields(s) {
		name, names, _ := strings.Cut(w, ":")
		l = append(l, reader(name, strings.Split(names, "")...))
	}
	return l
}

// letters are names that rise.
const letters = "pqrstuvw"

// wired are so many entries, of which one reads another one, if the bit is set that stands for both.
func wired(many int, bits int) []api.Entry {
	var l []api.Entry
	for i := range many {
		var names []string
		for j := range many {
			if bits>>(i*many+j)&1 == 1 {
				names = append(names, letters[j:j+1])
			}
		}
		l = append(l, reader(letters[i:i+1], names...))
	}
	return l
}

// told are numbers, as one reads them.
func told(l []int) string {
	var out []string
	for _, n := range l {
		out = append(out, strconv.Itoa(n))
	}
	return strings.Join(out, " ")
}

// shown are entries, as one reads them: what each reads, or all of them, if they are not right.
func shown(l []api.Entry) string {
	if !graph.Right(l) {
		return fmt.Sprintf("%.999v", l)
	}
	var out []string
	for at, x := range l {
		out = append(out, x.Name+":"+told(graph.Reads(l, at)))
	}
	return strings.Join(out, ", ")
}

// sketchRight is what the document's words say of entries.
func sketchRight(l []api.Entry) bool {
	if len(l) > 8 {
		return false
	}
	for i, x := range l {
		if !event.Word(x.Name) || lex.Key(x.Name) || !timeline.Right(x.Versions) || len(x.Versions) < 1 {
			return false
		}
		for _, y := range l[:i] {
			if strings.Compare(y.Name, x.Name) >= 0 {
				return false
			}
		}
	}
	return true
}

// sketchReads is what the document's words say of what an entry reads.
func sketchReads(l []api.Entry, at int) []int {
	if !sketchRight(l) || at < 0 || at > len(l)-1 {
		return nil
	}
	found := map[string]bool{}
	for _, v := range l[at].Versions {
		for _, it := range v.Query.Items {
			for _, n := range it.Names {
				found[n] = true
			}
		}
	}
	var out []int
	for i, x := range l {
		if found[x.Name] {
			out = append(out, i)
		}
	}
	return out
}

// sketchWays tells from which entry to which one there is a way.
func sketchWays(l []api.Entry) [8][8]bool {
	var is [8][8]bool
	for i := range l {
		for _, j := range sketchReads(l, i) {
			is[i][j] = true
		}
	}
	for by := range is {
		for i := range is {
			for j := range is {
				is[i][j] = is[i][j] || is[i][by] && is[by][j]
			}
		}
	}
	return is
}

// sketchDepths is what the document's words say of how deep entries are.
func sketchDepths(l []api.Entry) ([]int, api.Errno) {
	if !sketchRight(l) {
		return nil, api.ErrArg
	}
	ways := sketchWays(l)
	for i := range l {
		if ways[i][i] {
			return nil, api.ErrRing
		}
	}
	var deep func(at int) int
	deep = func(at int) int {
		most := 0
		for _, i := range sketchReads(l, at) {
			most = max(most, deep(i))
		}
		return 1 + most
	}
	var out []int
	for i := range l {
		out = append(out, deep(i))
	}
	for _, n := range out {
		if n > 3 {
			return nil, api.ErrTooMany
		}
	}
	return out, api.OK
}

// sketchOrder is what the document's words say of the order of entries.
func sketchOrder(l []api.Entry) []int {
	deep, _ := sketchDepths(l)
	var out []int
	for n := 1; n <= 3; n++ {
		for i := range deep {
			if deep[i] == n {
				out = append(out, i)
			}
		}
	}
	return out
}

// sketchReaders is what the document's words say of who reads an entry.
func sketchReaders(l []api.Entry, at int) []int {
	if !sketchRight(l) || at < 0 || at > len(l)-1 {
		return nil
	}
	ways := sketchWays(l)
	var out []int
	for i := range l {
		if ways[i][at] {
			out = append(out, i)
		}
	}
	return out
}

// places are all of entries, and such that are none of theirs.
func places(l []api.Entry) []int {
	out := []int{math.MinInt, math.MinInt + 1, -8, -2, len(l), len(l) + 1, 8, 9, math.MaxInt - 1, math.MaxInt}
	for at := -1; at < len(l); at++ {
		out = append(out, at)
	}
	return out
}

// held holds all calls of entries against the sketch's; and answers the error of Depths.
func held(t *testing.T, l []api.Entry) api.Errno {
	t.Helper()
	if got, want := graph.Right(l), sketchRight(l); got != want {
		t.Errorf("%s: Right is %v", shown(l), got)
	}
	deep, e := graph.Depths(l)
	if want, wantE := sketchDepths(l); e != wantE || !slices.Equal(deep, want) {
		t.Errorf("%s: Depths are %v %v, not %v %v", shown(l), deep, e, want, wantE)
	}
	if got, want := graph.Order(l), sketchOrder(l); !slices.Equal(got, want) {
		t.Errorf("%s: Order is %v, not %v", shown(l), got, want)
	}
	for _, at := range places(l) {
		if got, want := graph.Reads(l, at), sketchReads(l, at); !slices.Equal(got, want) {
			t.Errorf("%s: %d reads %v, not %v", shown(l), at, got, want)
		}
		if got, want := graph.Readers(l, at), sketchReaders(l, at); !slices.Equal(got, want) {
			t.Errorf("%s: of %d Readers are %v, not %v", shown(l), at, got, want)
		}
	}
	return e
}

// dice are numbers that look like thrown ones, the same ones each time.
type dice uint64

func (r *dice) below(n int) int {
	*r = *r*6364136223846793005 + 1442695040888963407
	return int(uint64(*r) >> 33 % uint64(n))
}

// rarely is so once in so many times.
func (r *dice) rarely(n int) bool { return r.below(n) == 0 }

// words are names that rise; some begin alike.
var words = []string{"a", "a0", "a_", "aa", "b", "b1", "b10", "b2", "c", "cabcdefghijklmno", "d", "sums"}

// names are some of words, that rise.
func (r *dice) names(many int) []string {
	l := slices.Clone(words)
	for len(l) > many {
		at := r.below(len(l))
		l = slices.Delete(l, at, at+1)
	}
	return l
}

// query is one that has the names, at most 6, and such of schemas.
func (r *dice) query(names []string) api.Query {
	q := api.Query{Within: int64(r.below(9)), Pick: api.Any + r.below(3)}
	for len(names) > 0 || len(q.Items) == 0 {
		var it api.Item
		n := min(len(names), r.below(api.MaxNames+1))
		it = item(len(q.Items), slices.Clone(names[:n])...)
		names = names[n:]
		if n == 0 && len(q.Items)+len(names) >= api.MaxItems {
			continue
		}
		if n < api.MaxNames && (n == 0 || r.rarely(2)) {
			it.Names = slices.Insert(it.Names, r.below(n+1), "schema")
		}
		if len(q.Items) == 0 {
			it.Mode = api.One + r.below(2)
		} else if it.Not = r.rarely(3); !it.Not {
			it.Mode = api.One + r.below(3)
		}
		q.Items = append(q.Items, it)
	}
	return q
}

// some are a few of the names, in any order, no two alike.
func (r *dice) some(l []string, many int) []string {
	l = slices.Clone(l)
	for i := range l {
		j := i + r.below(len(l)-i)
		l[i], l[j] = l[j], l[i]
	}
	return l[:min(len(l), r.below(many+1))]
}

// versions are right ones, of queries that have some of the names.
func (r *dice) versions(names []string) []api.Version {
	l := []api.Version{{From: int64(r.below(4)), Query: r.query(r.some(names, 3))}}
	for r.rarely(3) && len(l) < api.MaxVersions-1 {
		from := l[len(l)-1].From + 1 + int64(r.below(4))
		if r.rarely(3) && !l[len(l)-1].Drop {
			l = append(l, drop(from))
			from++
		}
		l = append(l, api.Version{From: from, Query: r.query(r.some(names, 3))})
	}
	if r.rarely(4) && !l[len(l)-1].Drop {
		l = append(l, drop(l[len(l)-1].From+1))
	}
	return l
}

// entries are right ones, of which each reads mostly such as stand on a lower step than its own.
func (r *dice) entries(steps int) []api.Entry {
	names := r.names(r.below(api.MaxEntries + 1))
	var step []int
	for range names {
		step = append(step, r.below(steps))
	}
	var l []api.Entry
	for i, name := range names {
		var lower []string
		for j, other := range names {
			if step[j] < step[i] || r.rarely(60) {
				lower = append(lower, other)
			}
		}
		l = append(l, api.Entry{Name: name, Versions: r.versions(lower)})
	}
	return l
}

// wrong makes a thing of entries another one, that may not be, or may.
func (r *dice) wrong(l []api.Entry) []api.Entry {
	if len(l) == 0 {
		return l
	}
	at, other := r.below(len(l)), r.below(len(l))
	switch r.below(7) {
	case 0:
		l[at].Name = []string{"", "A", "seq", "max", "0a", "a-", "aaaaaaaaaaaaaaaa", "aaaaaaaaaaaaaaaaa"}[r.below(8)]
	case 1:
		l[at].Name = words[r.below(len(words))]
	case 2:
		l[at], l[other] = l[other], l[at]
	case 3:
		l[at].Versions = nil
	case 4:
		l[at].Versions[r.below(len(l[at].Versions))].From = int64(r.below(12) - 1)
	case 5:
		l[at].Versions[r.below(len(l[at].Versions))].Query.Pick = r.below(5)
	case 6:
		for n := r.below(4); n > 0; n-- {
			l = append(l, api.Entry{Name: words[len(words)-n], Versions: r.versions(words)})
		}
	}
	return l
}
