package graph_test

import (
	"slices"
	"strconv"
	"strings"
	"testing"

	"augury/api"
	"augury/graph"
)

// named are entries of these names, that read none.
func named(names ...string) []api.Entry {
	var l []api.Entry
	for _, n := range names {
		l = append(l, reader(n))
	}
	return l
}

// P16.1: P1, entries that are right by their names, and how many they are.
func TestRight(t *testing.T) {
	for text, want := range map[string]bool{
		"": true, "p": true, "p q": true,
		// Eight and nine.
		"a b c d e f g h": true, "a b c d e f g h i": false,
		// Names that are alike, and that fall: first, in the middle, last.
		"p p": false, "p p q": false, "p q q": false, "p q q r": false,
		"q p": false, "q p r": false, "p r q": false, "p s q r": false, "q r p": false, "h a b c d e f g": false,
		// Bytes say the order, not letters, and not numbers.
		"a a0 a_ aa b": true, "a aa a_": false, "a a_ a0": false, "aa a": false, "p1 p10 p2": true, "p1 p2 p10": false, "a zz": true, "zz a": false,
		// No words.
		"P": false, "1p": false, "_p": false, "p-": false, "p.q": false, "\xff": false, "p\xff": false, "é": false, "p'": false,
		"p1": true, "p_": true, "z9_0": true, "p P": false, "P p": false, "0 p": false, "p {": false,
		// As long as may be, and longer.
		"abcdefghijklmnop": true, "abcdefghijklmnopq": false, "p0123456789_____": true, "p0123456789______": false,
		"abcdefghijklmnop abcdefghijklmnoq": true, "a abcdefghijklmnopq b": false,
		// Kept ones, and such that only look like them.
		"a seq": false, "seq t": false, "seqs": true, "se": true, "seq1": true, "counts mina sum_": true,
	} {
		l := named(strings.Fields(text)...)
		if got := graph.Right(l); got != want || sketchRight(l) != want {
			t.Errorf("%q: %v", text, got)
		}
		held(t, l)
	}
	for _, key := range strings.Fields("seq then not or where and within by pick any next strict true false count sum min max") {
		if graph.Right(named(key)) || graph.Right(named(key, "zz")) || graph.Right(named("a", key)) {
			t.Error(key)
		}
	}
	for _, l := range [][]api.Entry{named(""), named("", "p"), named("p", ""), named("", ""), named("p q"), named(" p"), named("p "), named("p\n"), named("p\x00"), make([]api.Entry, 1), make([]api.Entry, 8)} {
		if graph.Right(l) {
			t.Errorf("%q", l[0].Name)
		}
		held(t, l)
	}
	if !graph.Right(nil) || !graph.Right([]api.Entry{}) || graph.Right(slices.Repeat(named("p"), 9)) {
		t.Error("how many")
	}
}

// P16.1: P1, entries that are right by their versions, wherever they stand.
func TestRightByVersions(t *testing.T) {
	var eight, nine []string
	for n := range 9 {
		eight, nine = nine, append(nine, strconv.Itoa(n)+" a x")
	}
	for text, want := range map[string]bool{
		"0 a x": true, "1099511627776 a x": true, "1099511627777 a x": false,
		"0 a x | 5 b x": true, "0 a x | 0 b x": false, "5 a x | 4 b x": false,
		"0 a x | 5 drop": true, "0 drop": false, "0 drop | 5 a x": false, "0 a x | 5 drop | 6 drop": false, "0 a x | 5 drop | 6 a x": true,
		strings.Join(eight, " | "): true, strings.Join(nine, " | "): false,
	} {
		v := entries(t, "p = "+text)[0].Versions
		for at := range 4 {
			l := named("p", "q", "r", "s")
			l[at].Versions = v
			if got := graph.Right(l); got != want {
				t.Errorf("%s at %d: %v", text, at, got)
			}
			held(t, l)
		}
	}
	wrong := parsed(t, "a x then p y")
	wrong.Within = -1
	for i, v := range [][]api.Version{nil, {}, {{}}, {{Query: wrong}}, {{From: -1, Query: parsed(t, "a x")}}, {{Query: parsed(t, "a x")}, {From: 4, Drop: true, Query: parsed(t, "a x")}}, {{Query: parsed(t, "a x")}, {From: 4, Query: wrong}}} {
		for at := range 4 {
			l := named("p", "q", "r", "s")
			l[at].Versions = v
			if graph.Right(l) {
				t.Error(i, at)
			}
			if e := held(t, l); e != api.ErrArg {
				t.Error(i, at, e)
			}
		}
	}
	// Nothing is read of entries that are not right, by those that are.
	l := reading("p q:p r:q s")
	l[3].Versions[0].Query.Pick = 0
	if got, e := graph.Depths(l); e != api.ErrArg || len(got)+len(graph.Order(l))+len(graph.Reads(l, 1))+len(graph.Readers(l, 0)) != 0 {
		t.Error(got, e, graph.Reads(l, 1), graph.Readers(l, 0))
	}
}

// P16.1: P1, what an entry reads, by which version, item and name.
func TestReads(t *testing.T) {
	const pqr = "; q = 0 a x; r = 0 a x"
	for text, want := range map[string]string{
		// None, one, all, itself.
		"p = 0 a x" + pqr:                                "",
		"p = 0 q x" + pqr:                                "1",
		"p = 0 r x" + pqr:                                "2",
		"p = 0 p x" + pqr:                                "0",
		"p = 0 q x then r y" + pqr:                       "1 2",
		"p = 0 r x then q y" + pqr:                       "1 2",
		"p = 0 r or q or p x" + pqr:                      "0 1 2",
		"p = 0 r x then p y then q z" + pqr:              "0 1 2",
		"p = 0 q x then q y then q or a z | 4 q x" + pqr: "1",
		// By the first version alone, the last one, one between, such that are ahead of a Drop, and behind it.
		"p = 0 q x | 5 a x" + pqr:                         "1",
		"p = 0 q x | 5 a x | 6 b x | 7 c x" + pqr:         "1",
		"p = 0 a x | 5 r x" + pqr:                         "2",
		"p = 0 a x | 5 b x | 6 c x | 7 r x" + pqr:         "2",
		"p = 0 a x | 5 q x | 6 b x" + pqr:                 "1",
		"p = 0 q x | 5 r x | 6 p x" + pqr:                 "0 1 2",
		"p = 0 r x | 5 p x | 6 q x" + pqr:                 "0 1 2",
		"p = 0 q x | 5 drop" + pqr:                        "1",
		"p = 0 a x | 5 q x | 6 drop" + pqr:                "1",
		"p = 0 q x | 5 drop | 6 a x" + pqr:                "1",
		"p = 0 q x | 5 drop | 6 r x" + pqr:                "1 2",
		"p = 0 a x | 5 drop | 6 r x | 7 drop" + pqr:       "2",
		"p = 1099511627775 a x | 1099511627776 r x" + pqr: "2",
		// By each item, also a Not, one that may be left out, one that may come more than once; by each of its Names.
		"p = 0 a x then q y" + pqr:                                                   "1",
		"p = 0 a x then not q n" + pqr:                                               "1",
		"p = 0 a x then not q n then b z" + pqr:                                      "1",
		"p = 0 a x then not b or q n then not r m" + pqr:                             "1 2",
		"p = 0 a x then not p n" + pqr:                                               "0",
		"p = 0 a x then q y?" + pqr:                                                  "1",
		"p = 0 a x then q y+" + pqr:                                                  "1",
		"p = 0 q x+" + pqr:                                                           "1",
		"p = 0 a or q x" + pqr:                                                       "1",
		"p = 0 a or b or q x" + pqr:                                                  "1",
		"p = 0 q or a or b x" + pqr:                                                  "1",
		"p = 0 a or q or r x" + pqr:                                                  "1 2",
		"p = 0 a u then b v then c w then a x then b y then q z" + pqr:               "1",
		"p = 0 a u then b v then c w then a x then b y then not a or b or r n":       "",
		"p = 0 a u then b v then c w then a x then b y then not a or b or r n" + pqr: "2",
		// By a name alone, not by a variable, a field, By, or a text, nor by what begins alike.
		"p = 0 a q then b r where q.r = r.q and count(q) = 1 and q.v = 'q'" + pqr: "",
		"p = 0 qq x then q1 y then q_ z then rr w" + pqr:                          "",
		"p = 0 schema x then a y then b z" + pqr:                                  "",
		"p = 0 a x; q1 = 0 a x; qq = 0 a x":                                       "",
		"p = 0 q x; q1 = 0 a x; qq = 0 a x":                                       "",
		"p = 0 qq x; q = 0 a x; qq = 0 a x":                                       "2",
	} {
		l := entries(t, text)
		if got := told(graph.Reads(l, 0)); got != want {
			t.Errorf("%q: %s", text, got)
		}
		held(t, l)
	}
	by := entries(t, "p = 0 a x; q = 0 a x")
	by[0].Versions[0].Query.By = "q"
	if got := graph.Reads(by, 0); len(got) > 0 {
		t.Error(got)
	}
}

// P16.1: P1, what the entries of each place read; nothing of a place that is none, and of entries that are not right.
func TestReadsByPlace(t *testing.T) {
	l := reading("p q:p r:pqr s t:pqrstuvw u:v v w:a")
	for at, want := range map[int]string{0: "", 1: "0", 2: "0 1 2", 3: "", 4: "0 1 2 3 4 5 6 7", 5: "6", 6: "", 7: "", -1: "", 8: "", -2: "", 9: "", -8: "", 1 << 40: ""} {
		if got := told(graph.Reads(l, at)); got != want {
			t.Errorf("%d: %s", at, got)
		}
	}
	held(t, l)
	for i, l := range [][]api.Entry{nil, {}, reading("q:q p:q"), reading("p:p p:p"), reading("a:a b c d e f g h i:a"), reading("P:p p:p"), {{Name: "p"}, reader("q", "p")}, {reader("p", "p"), {Name: "q"}}, {reader("p", "seq"), reader("seq", "p")}} {
		for _, at := range places(l) {
			if got := graph.Reads(l, at); len(got) > 0 {
				t.Error(i, at, got)
			}
			if got := graph.Readers(l, at); len(got) > 0 {
				t.Error(i, at, got)
			}
		}
	}
	if got := told(graph.Reads(reading("p q r:q"), 2)); got != "1" {
		t.Error(got)
	}
}

// toldDepths are depths, or their error, and what stands beside it.
func toldDepths(l []api.Entry) string {
	deep, e := graph.Depths(l)
	return told(deep) + map[api.Errno]string{api.ErrArg: "wrong", api.ErrRing: "ring", api.ErrTooMany: "too deep"}[e]
}

// P16.1: P2 and P3, how deep entries are, and their order.
func TestDepths(t *testing.T) {
	for text, want := range map[string][2]string{
		"": {"", ""},
		// Such that read none, and that read what is no entry.
		"p": {"1", "0"}, "p:a": {"1", "0"}, "p q r": {"1 1 1", "0 1 2"}, "p:a q:b r:ab": {"1 1 1", "0 1 2"},
		"p q r s t u v w": {"1 1 1 1 1 1 1 1", "0 1 2 3 4 5 6 7"},
		// The document's example.
		"p:a q:p": {"1 2", "0 1"},
		// Rows of 2, 3 and 4 of which each reads the next, by rising and falling places, and in another order.
		"p:q q": {"2 1", "1 0"}, "p q:p": {"1 2", "0 1"},
		"p q:p r:q": {"1 2 3", "0 1 2"}, "p:q q:r r": {"3 2 1", "2 1 0"}, "p:r q r:q": {"3 1 2", "1 2 0"}, "p q:r r:p": {"1 3 2", "0 2 1"}, "p:q q r:p": {"2 1 3", "1 0 2"}, "p:r q:p r": {"2 3 1", "2 0 1"},
		"p q:p r:q s:r": {"too deep", ""}, "p:q q:r r:s s": {"too deep", ""}, "p:r q:s r:q s": {"too deep", ""}, "p:s q:p r s:r": {"too deep", ""},
		"p q:p r:q s:r t u": {"too deep", ""}, "p q r:t s:q t:s": {"too deep", ""},
		"p q:p r:q s:r t:s u:t v:u w:v": {"too deep", ""}, "p:q q:r r:s s:t t:u u:v v:w w": {"too deep", ""},
		// Such that read two of unlike depths, and of one depth.
		"p q:p r:pq": {"1 2 3", "0 1 2"}, "p:qr q:r r": {"3 2 1", "2 1 0"}, "p:r q:pr r": {"2 3 1", "2 0 1"},
		"p q r:pq": {"1 1 2", "0 1 2"}, "p:qr q r": {"2 1 1", "1 2 0"}, "p q:p r:p s:qr": {"1 2 2 3", "0 1 2 3"}, "p:qr q:s r:s s": {"3 2 2 1", "3 1 2 0"},
		"p q:p r s:qr": {"1 2 1 3", "0 2 1 3"}, "p q:p r s:rq t:rp": {"1 2 1 3 2", "0 2 1 4 3"}, "p:st q:s r s:r t": {"3 3 1 2 1", "2 4 3 0 1"},
		"p q:p r:pq s:pqr": {"too deep", ""}, "p q:p r:q s:p t:ps u:qt": {"too deep", ""},
		// Of one depth by their places.
		"p:w q r:w s t:w u v:w w": {"2 1 2 1 2 1 2 1", "1 3 5 7 0 2 4 6"}, "p:s q:t r:u s:v t:v u:v v": {"3 3 3 2 2 2 1", "6 3 4 5 0 1 2"},
		"p:qrst q r s t": {"2 1 1 1 1", "1 2 3 4 0"}, "p q r s t:pqrs": {"1 1 1 1 2", "0 1 2 3 4"},
		// Such that read themselves: alone, among others, by others.
		"p:p": {"ring", ""}, "p:pa": {"ring", ""}, "p q:q": {"ring", ""}, "p:p q": {"ring", ""}, "p q:pq r": {"ring", ""}, "p q r:r": {"ring", ""},
		"p:q q:p": {"ring", ""}, "p:q q:pa r": {"ring", ""}, "p q:r r:q": {"ring", ""}, "p:q q:r r:p": {"ring", ""}, "p:r q:p r:q": {"ring", ""},
		"p:q q:r r:s s:t t:u u:v v:w w:p": {"ring", ""}, "p:w q:p r:q s:r t:s u:t v:u w:v": {"ring", ""}, "p:s q:v r:p s:u t:r u:q v:w w:t": {"ring", ""},
		// A ring of which others read, that reads others, both, and two of them.
		"p:q q:p r:p": {"ring", ""}, "p:r q:r r:q": {"ring", ""}, "p:qr q:p r": {"ring", ""}, "p q:pr r:q": {"ring", ""}, "p q:pr r:q s:r": {"ring", ""}, "p:q q:p r:s s:r": {"ring", ""},
		"p q:p r:rq": {"ring", ""}, "p:p q:p r:q": {"ring", ""},
		// A ring, and what is too deep, at once: together, and apart.
		"p q:p r:q s:rs": {"ring", ""}, "p:p q:p r:q s:r t:s": {"ring", ""}, "p q:p r:q s:r t:t": {"ring", ""}, "p:p q r:q s:r t:s": {"ring", ""}, "p:q q:p r s:r t:s u:t v:u": {"ring", ""}, "p:q q:r r:s s:t t:ut u": {"ring", ""},
		// What is not right, whatever it reads.
		"q:q p:q": {"wrong", ""}, "p p": {"wrong", ""}, "p:p p:p": {"wrong", ""}, "P": {"wrong", ""}, "a b:a c:b d:c e f g h i": {"wrong", ""}, "a b c d e f g h i:i": {"wrong", ""}, "a b c d e f g h i": {"wrong", ""},
	} {
		l := reading(text)
		if got := [2]string{toldDepths(l), told(graph.Order(l))}; got != want {
			t.Errorf("%q: %q", text, got)
		}
		held(t, l)
	}
}

// P16.1: P2 and P3, of what is read by whichever version, item and name, as Reads has it.
func TestDepthsByReads(t *testing.T) {
	for text, want := range map[string][2]string{
		"p = 0 a x; q = 0 p x":                                                       {"1 2", "0 1"},
		"p = 0 q x | 5 a x; q = 0 a x | 5 drop":                                      {"2 1", "1 0"},
		"p = 0 a x then not q n; q = 0 a x":                                          {"2 1", "1 0"},
		"p = 0 a or b or q x | 3 drop; q = 0 a x":                                    {"2 1", "1 0"},
		"p = 0 q x | 5 a x; q = 0 a x | 5 p x":                                       {"ring", ""},
		"p = 0 a x | 5 q x | 6 drop; q = 0 a x then not p n":                         {"ring", ""},
		"p = 0 a x | 5 drop | 6 p x":                                                 {"ring", ""},
		"p = 0 a x then not p n":                                                     {"ring", ""},
		"p = 0 a x; q = 0 a x | 9 p x; r = 0 q x | 9 a x; s = 0 a x | 1 r x | 2 a x": {"too deep", ""},
		"p = 0 a x; q = 0 a x | 9 p x; r = 0 q x | 9 p x; s = 0 a x | 1 q x | 2 p x": {"1 2 3 3", "0 1 2 3"},
	} {
		l := entries(t, text)
		if got := [2]string{toldDepths(l), told(graph.Order(l))}; got != want {
			t.Errorf("%q: %q", text, got)
		}
		held(t, l)
	}
}

// P16.1: P3, who reads an entry.
func TestReaders(t *testing.T) {
	for text, want := range map[string][]string{
		// Whom none reads; who is read by one, and by all.
		"p":                             {""},
		"p:a q":                         {"", ""},
		"p q:p":                         {"1", ""},
		"p:q q":                         {"", "0"},
		"p q:p r:p s:p":                 {"1 2 3", "", "", ""},
		"p:s q:s r:s s":                 {"", "", "", "0 1 2"},
		"p q:p r:p s:p t:p u:p v:p w:p": {"1 2 3 4 5 6 7", "", "", "", "", "", "", ""},
		// By way of others, by rising and falling places.
		"p q:p r:q":         {"1 2", "2", ""},
		"p:q q:r r":         {"", "0", "0 1"},
		"p q:r r:p":         {"1 2", "", "1"},
		"p:q q r:p":         {"2", "0 2", ""},
		"p:r q r:q s:p t":   {"3", "0 2 3", "0 3", "", ""},
		"p:q q:t r:s s t:s": {"", "0", "", "0 1 2 4", "0 1"},
		// By two ways, of one length, and of two.
		"p q:p r:p s:qr":           {"1 2 3", "3", "3", ""},
		"p q:p r:pq":               {"1 2", "2", ""},
		"p:qr q:s r:s s":           {"", "0", "0", "0 1 2"},
		"p:rq q:r r":               {"", "0", "0 1"},
		"p q:p r:p s:q t:r u:st v": {"1 2 3 4 5", "3 5", "4 5", "5", "5", "", ""},
		// Who reads itself; rings: who is in one, who reads one, whom one reads.
		"p:p":                             {"0"},
		"p:p q":                           {"0", ""},
		"p:p q:p":                         {"0 1", ""},
		"p q:pq":                          {"1", "1"},
		"p:q q:p":                         {"0 1", "0 1"},
		"p:q q:r r:p":                     {"0 1 2", "0 1 2", "0 1 2"},
		"p:q q:p r:q s":                   {"0 1 2", "0 1 2", "", ""},
		"p q:pr r:q s":                    {"1 2", "1 2", "1 2", ""},
		"p q:pr r:q s:r t:s u:v v:u":      {"1 2 3 4", "1 2 3 4", "1 2 3 4", "4", "", "5 6", "5 6"},
		"p:q q:r r:s s:t t:u u:v v:w w:p": {"0 1 2 3 4 5 6 7", "0 1 2 3 4 5 6 7", "0 1 2 3 4 5 6 7", "0 1 2 3 4 5 6 7", "0 1 2 3 4 5 6 7", "0 1 2 3 4 5 6 7", "0 1 2 3 4 5 6 7", "0 1 2 3 4 5 6 7"},
		// What is too deep.
		"p q:p r:q s:r":                 {"1 2 3", "2 3", "3", ""},
		"p:q q:r r:s s:t t:u u:v v:w w": {"", "0", "0 1", "0 1 2", "0 1 2 3", "0 1 2 3 4", "0 1 2 3 4 5", "0 1 2 3 4 5 6"},
		"p q:p r:q s:r t:s u:t v:u w:v": {"1 2 3 4 5 6 7", "2 3 4 5 6 7", "3 4 5 6 7", "4 5 6 7", "5 6 7", "6 7", "7", ""},
		"p:r q:t r:s s:q t":             {"", "0 2 3", "0", "0 2", "0 1 2 3"},
	} {
		l := reading(text)
		for at, some := range want {
			if got := told(graph.Readers(l, at)); got != some {
				t.Errorf("%q: %d: %s", text, at, got)
			}
		}
		for _, at := range []int{-1, -2, len(l), len(l) + 1} {
			if got := graph.Readers(l, at); len(got) > 0 {
				t.Errorf("%q: %d: %s", text, at, told(got))
			}
		}
		held(t, l)
	}
	if got := told(graph.Readers(entries(t, "p = 0 a x | 5 drop; q = 0 a x then not a or p n | 3 a x; r = 0 a x | 1 q x | 9 drop"), 0)); got != "1 2" {
		t.Error(got)
	}
}

// P16.1: P1 to P3, of all that up to four entries can read, against the sketch.
func TestAllOfFew(t *testing.T) {
	count := map[api.Errno]int{}
	for many := range 5 {
		for bits := range 1 << (many * many) {
			count[held(t, wired(many, bits))]++
			if t.Failed() {
				t.FailNow()
			}
		}
	}
	// Without a ring there are 1, 1, 3, 25 and 543. Too deep is what has a row of all four, in one of 24 orders: the 3 pairs that do not follow one another in it may read, or not.
	if count[api.OK] != 1+1+3+25+543-24*8 || count[api.ErrTooMany] != 24*8 || count[api.ErrRing] != 1+13+487+64993 {
		t.Error(count)
	}
}

// P16.1: P1 to P3, of thrown entries, right and not, against the sketch.
func TestThrownEntries(t *testing.T) {
	r := dice(161)
	count, many := map[api.Errno]int{}, map[int]int{}
	for range 30000 {
		l := r.entries(1 + r.below(5))
		if r.rarely(4) {
			l = r.wrong(l)
		}
		e := held(t, l)
		if count[e]++; e == api.OK {
			many[len(l)]++
		}
		if t.Failed() {
			t.FailNow()
		}
	}
	if min(count[api.OK], count[api.ErrArg], count[api.ErrRing], count[api.ErrTooMany]) < 1000 {
		t.Error("too few", count)
	}
	for n := range api.MaxEntries + 1 {
		if many[n] < 100 {
			t.Error("too few", many)
		}
	}
}
