package event_test

import (
	"math"
	"slices"
	"strings"
	"testing"

	"augury/api"
	"augury/event"
)

const most = 1 << 40

func num(n int64) api.Val { return api.Val{Kind: api.Int, N: n} }

func text(s string) api.Val { return api.Val{Kind: api.Text, S: s} }

func truth(n int64) api.Val { return api.Val{Kind: api.Bool, N: n} }

// vals are so many right values, of all kinds in turn.
func vals(n int) []api.Val {
	var l []api.Val
	for i := range n {
		l = append(l, []api.Val{num(int64(i) - 1), text(strings.Repeat("b", i)), truth(int64(i % 2))}[i%3])
	}
	return l
}

// field is one that is right.
func field(name string) api.Field { return api.Field{Name: name, Kind: api.Int} }

// fields are so many fields of names of their own, of all kinds in turn, such as vals fit.
func fields(n int) []api.Field {
	var l []api.Field
	for i := range n {
		l = append(l, api.Field{Name: "f" + string(rune('0'+i)), Kind: 1 + i%3})
	}
	return l
}

const letters = "abcdefghijklmnopqrstuvwxyz"

// isWord is what is said of words.
func isWord(s string) bool {
	if len(s) < 1 || len(s) > 16 || !strings.Contains(letters, s[:1]) {
		return false
	}
	for i := range len(s) {
		if !strings.Contains(letters+"0123456789_", s[i:i+1]) {
			return false
		}
	}
	return true
}

// words are some that may be names, at all lengths.
func words() []string {
	l := []string{"z", "a0", "a9", "a_", "az", "z_9", "a__", "a_0b", "m", "seq", "then"}
	for n := range 16 {
		l = append(l, strings.Repeat("a", n+1), "x"+strings.Repeat("_", n), "q"+strings.Repeat("9", n))
	}
	return l
}

// noWords are some that may not.
func noWords() []string {
	return []string{
		"", "A", "Z", "aB", "Ab", "0", "9", "0a", "9a", "_", "_a", "__", "-", "a-", "a-b", "a b", " a", "a ", "a\n", "\na", "a.b", "a\x00", "\x00", "\x00a",
		"é", "aé", "a\xff", "\xff", "a\x80", "ａ", "aａ", "а", "`", "{", "a`", "a{", "a/", "a:", "a@", "a[", "/", ":", "@", "[", "^", "a^",
		strings.Repeat("a", 17), strings.Repeat("a", 32), "a" + strings.Repeat("_", 16), strings.Repeat("a", 1<<16), "_" + strings.Repeat("a", 15), strings.Repeat("a", 15) + "A", strings.Repeat("a", 16) + " ", strings.Repeat("a", 15) + "é",
	}
}

// P5.1, E1: which texts are words.
func TestWord(t *testing.T) {
	for _, s := range words() {
		if !event.Word(s) {
			t.Errorf("%q is a word", s)
		}
	}
	for _, s := range noWords() {
		if event.Word(s) {
			t.Errorf("%.99q is no word", s)
		}
	}
	for x := range 256 {
		c := string([]byte{byte(x)})
		for _, s := range []string{c, c + "a", "a" + c, "a" + c + "a", "a_" + c, strings.Repeat("a", 15) + c, c + strings.Repeat("a", 15), strings.Repeat("a", 16) + c} {
			if event.Word(s) != isWord(s) {
				t.Errorf("%q", s)
			}
		}
	}
}

// rightSchemas are some that are right.
func rightSchemas() []api.Schema {
	l := []api.Schema{
		{Name: "a"}, {Name: "a", Fields: []api.Field{}}, {Name: "abcdefghijklmnop"}, {Name: "a", Fields: []api.Field{field("a")}},
		{Name: "a", Fields: []api.Field{field("abcdefghijklmnop"), field("abcdefghijklmno"), field("abcdefghijklmnoq")}},
		{Name: "a", Fields: []api.Field{{Name: "x", Kind: 1}, {Name: "y", Kind: 1}, {Name: "z", Kind: 1}}},
		{Name: "a", Fields: []api.Field{{Name: "x", Kind: 3}, {Name: "x_", Kind: 2}, {Name: "x0", Kind: 1}}},
	}
	for n := range 9 {
		l = append(l, api.Schema{Name: "a", Fields: fields(n)})
	}
	for _, s := range words() {
		l = append(l, api.Schema{Name: s, Fields: []api.Field{field(s)}})
	}
	return l
}

// wrongSchemas are some that are not, with one thing wrong each.
func wrongSchemas() []api.Schema {
	l := []api.Schema{
		{}, {Fields: fields(1)}, {Name: "a", Fields: make([]api.Field, 1)}, {Name: "a", Fields: make([]api.Field, 8)}, {Name: "a", Fields: make([]api.Field, 9)},
		{Name: "a", Fields: append(fields(8), field("x"))}, {Name: "a", Fields: slices.Repeat(fields(8), 2)}, {Name: "a", Fields: slices.Repeat(fields(8), 1<<12)},
		{Name: "a", Fields: []api.Field{{Name: "x", Kind: 1}, {Name: "x", Kind: 2}}}, {Name: "a", Fields: []api.Field{field("x"), field("x")}}, {Name: "a", Fields: append(fields(7), field("f0"))}, {Name: "a", Fields: append(fields(7), field("f6"))},
		{Name: "a", Fields: append([]api.Field{field("f3")}, fields(7)...)},
	}
	for _, s := range noWords() {
		l = append(l, api.Schema{Name: s, Fields: fields(2)}, api.Schema{Name: "a", Fields: []api.Field{field(s)}}, api.Schema{Name: "a", Fields: append(fields(7), field(s))})
	}
	for _, kind := range []int{0, 4, -1, -3, 5, 257, 1<<32 + 1, math.MaxInt, math.MinInt} {
		f := api.Field{Name: "x", Kind: kind}
		l = append(l, api.Schema{Name: "a", Fields: []api.Field{f}}, api.Schema{Name: "a", Fields: append(fields(7), f)})
	}
	return l
}

// P5.1, E1: which schemas are right.
func TestSchema(t *testing.T) {
	for _, s := range rightSchemas() {
		if !event.Schema(s) {
			t.Errorf("%v is right", s)
		}
	}
	for _, s := range wrongSchemas() {
		if event.Schema(s) {
			t.Errorf("%.99v is not right", s)
		}
	}
}

// sameSchema tells whether both are alike.
func sameSchema(a, b api.Schema) bool {
	return a.Name == b.Name && slices.Equal(a.Fields, b.Fields)
}

// P5.1, E1: the first schema of a name, right or not.
func TestFind(t *testing.T) {
	l := []api.Schema{{Name: "b", Fields: fields(2)}, {Name: "a", Fields: fields(3)}, {Name: "b"}, {Name: "", Fields: fields(1)}, {Name: "A b", Fields: fields(9)}, {Name: "bb"}, {Name: "a"}}
	for name, at := range map[string]int{"b": 0, "a": 1, "": 3, "A b": 4, "bb": 5} {
		if s, is := event.Find(l, name); !is || !sameSchema(s, l[at]) {
			t.Errorf("%q: %v %v", name, s, is)
		}
	}
	for _, name := range []string{"c", "B", "ab", "aa", "b ", "A", "a\x00", "f0"} {
		if s, is := event.Find(l, name); is || !sameSchema(s, api.Schema{}) {
			t.Errorf("%q: %v %v", name, s, is)
		}
	}
	if s, is := event.Find(l[3:], "b"); is || !sameSchema(s, api.Schema{}) {
		t.Error(s, is)
	}
	for _, none := range [][]api.Schema{nil, {}} {
		if s, is := event.Find(none, ""); is || !sameSchema(s, api.Schema{}) {
			t.Error(s, is)
		}
	}
}

// P5.1, E1: the place and the kind of the first field of a name, right or not.
func TestField(t *testing.T) {
	s := api.Schema{Name: "a", Fields: []api.Field{{Name: "x", Kind: 2}, {Name: "on", Kind: 3}, {Name: "x", Kind: 1}, {Name: "n", Kind: 1}, {Name: "", Kind: 7}, {Name: "X Y", Kind: -1}, {Name: "zero"}}}
	for name, want := range map[string][2]int{"x": {0, 2}, "on": {1, 3}, "n": {3, 1}, "": {4, 7}, "X Y": {5, -1}, "zero": {6, 0}, "a": {-1, 0}, "X": {-1, 0}, "xx": {-1, 0}, "o": {-1, 0}, "y": {-1, 0}} {
		if at, kind := event.Field(s, name); at != want[0] || kind != want[1] {
			t.Errorf("%q: %d %d", name, at, kind)
		}
	}
	for _, s := range []api.Schema{{}, {Name: "x"}, {Name: "x", Fields: []api.Field{}}} {
		if at, kind := event.Field(s, "x"); at != -1 || kind != 0 {
			t.Error(s, at, kind)
		}
	}
	for n, f := range fields(8) {
		if at, kind := event.Field(api.Schema{Fields: fields(8)}, f.Name); at != n || kind != f.Kind {
			t.Error(f, at, kind)
		}
	}
}

// base is a right event.
func base() api.Event { return api.Event{Ts: 5, Depth: 1, Seq: 7, Name: "a", Vals: vals(3)} }

// but is base with something that is otherwise.
func but(change func(e *api.Event)) api.Event {
	e := base()
	change(&e)
	return e
}

// times are those that an event, and its number, may have, with those at which the count of digits changes.
func times() []int64 {
	return []int64{0, 1, 2, 44, 126, 127, 128, 129, 255, 256, 300, 16383, 16384, 1<<21 - 1, 1 << 21, 1<<28 - 1, 1 << 28, 1 << 32, 1<<35 - 1, 1 << 35, most - 1, most}
}

// noTimes are those that it may not have.
func noTimes() []int64 {
	return []int64{-1, -2, -128, -most, most + 1, most + 128, 1 << 41, 1 << 42, 1 << 62, math.MaxInt64, math.MinInt64, math.MinInt64 + 1}
}

// wrongVals are values that are not right.
func wrongVals() []api.Val {
	return []api.Val{
		{}, {Kind: 4}, {Kind: -1}, num(most + 1), num(-most - 1), num(math.MaxInt64), num(math.MinInt64), {Kind: api.Int, S: "x"}, truth(2), truth(-1), {Kind: api.Bool, S: "x"},
		{Kind: api.Text, N: 1}, text(strings.Repeat("a", 65)), text(strings.Repeat("a", 1<<16)),
	}
}

// rights are events that are right.
func rights() []api.Event {
	l := []api.Event{
		base(), {Name: "a"}, {Name: "a", Vals: []api.Val{}}, {Ts: most, Depth: 3, Seq: most, Name: "abcdefghijklmnop", Vals: slices.Repeat([]api.Val{text(strings.Repeat("z", 64))}, 8)},
		{Name: "a", Vals: []api.Val{num(most), num(-most), num(0), num(-1), text(""), text("\x00\xff"), truth(0), truth(1)}}, {Name: "a", Vals: slices.Repeat([]api.Val{num(-most)}, 8)},
	}
	for _, n := range times() {
		l = append(l, api.Event{Ts: n, Name: "a"}, api.Event{Seq: n, Name: "b", Vals: vals(1)})
		for _, m := range times() {
			l = append(l, api.Event{Ts: n, Depth: len(l) % 4, Seq: m, Name: "n"})
		}
	}
	for depth := range 4 {
		l = append(l, but(func(e *api.Event) { e.Depth = depth }))
	}
	for _, s := range words() {
		l = append(l, but(func(e *api.Event) { e.Name = s }))
	}
	for n := range 9 {
		l = append(l, but(func(e *api.Event) { e.Vals = vals(n) }))
	}
	for n := range 65 {
		l = append(l, but(func(e *api.Event) { e.Vals[1] = text(strings.Repeat("\x80", n)) }))
	}
	return l
}

// wrongs are events that are not, with one thing wrong each.
func wrongs() []api.Event {
	l := []api.Event{{}, but(func(e *api.Event) { e.Vals = vals(9) }), but(func(e *api.Event) { e.Vals = vals(17) }), but(func(e *api.Event) { e.Vals = slices.Repeat(vals(1), 1<<16) }), {Name: "a", Vals: make([]api.Val, 9)}}
	for _, n := range noTimes() {
		l = append(l, but(func(e *api.Event) { e.Ts = n }), but(func(e *api.Event) { e.Seq = n }))
	}
	for _, depth := range []int{-1, 4, -3, 5, 127, 128, 256, 257, 1<<32 + 1, math.MaxInt, math.MinInt} {
		l = append(l, but(func(e *api.Event) { e.Depth = depth }))
	}
	for _, s := range noWords() {
		l = append(l, but(func(e *api.Event) { e.Name = s }))
	}
	for _, v := range wrongVals() {
		l = append(l, api.Event{Name: "a", Vals: []api.Val{v}}, but(func(e *api.Event) { e.Vals[2] = v }), but(func(e *api.Event) { e.Vals = append(vals(7), v) }), but(func(e *api.Event) { e.Vals = append([]api.Val{v}, vals(7)...) }))
	}
	return l
}

// P5.1, E2: each right event fits the schema that its values are of.
func TestFits(t *testing.T) {
	for _, e := range rights() {
		s := api.Schema{Name: e.Name}
		for i, v := range e.Vals {
			s.Fields = append(s.Fields, api.Field{Name: "f" + string(rune('0'+i)), Kind: v.Kind})
		}
		for _, l := range [][]api.Schema{{s}, {{Name: "other", Fields: s.Fields}, s}, {s, {Name: e.Name, Fields: fields(8)}}} {
			if got := event.Fits(l, e); got != api.OK {
				t.Errorf("%v of %v: %d", e, l, got)
			}
		}
	}
}

// P5.1, E2: what is not right is told first, whatever schemas there are.
func TestFitsWrong(t *testing.T) {
	ls := [][]api.Schema{nil, {{Name: "a", Fields: fields(3)}}, {{Name: "b"}}, {{Name: "a"}}, {{}}}
	for _, e := range wrongs() {
		own := api.Schema{Name: e.Name}
		for _, v := range e.Vals {
			own.Fields = append(own.Fields, api.Field{Name: "x", Kind: v.Kind})
		}
		for _, l := range append(ls, []api.Schema{own}) {
			if got := event.Fits(l, e); got != api.ErrArg {
				t.Errorf("%.99v: %d", e, got)
			}
		}
	}
}

// P5.1, E2: the schema is the first one of the name; there must be one.
func TestFitsSchema(t *testing.T) {
	three, two := api.Schema{Name: "a", Fields: fields(3)}, api.Schema{Name: "a", Fields: fields(2)}
	other := api.Schema{Name: "b", Fields: fields(3)}
	for i, c := range []struct {
		l    []api.Schema
		want api.Errno
	}{
		{nil, api.ErrNone}, {[]api.Schema{}, api.ErrNone}, {[]api.Schema{other}, api.ErrNone}, {[]api.Schema{other, other}, api.ErrNone},
		{[]api.Schema{{Name: "A", Fields: fields(3)}, {Name: "", Fields: fields(3)}, {Name: "aa", Fields: fields(3)}}, api.ErrNone},
		{[]api.Schema{three}, api.OK}, {[]api.Schema{other, three}, api.OK}, {[]api.Schema{three, two}, api.OK}, {[]api.Schema{two, three}, api.ErrType}, {[]api.Schema{other, two, three}, api.ErrType}, {[]api.Schema{two}, api.ErrType},
	} {
		if got := event.Fits(c.l, base()); got != c.want {
			t.Error(i, got)
		}
	}
}

// P5.1, E2: there are as many values as fields, each of its field's kind.
func TestFitsVals(t *testing.T) {
	for n := range 9 {
		for many := range 11 {
			want := api.ErrType
			if n == many {
				want = api.OK
			}
			e := but(func(e *api.Event) { e.Vals = vals(n) })
			if got := event.Fits([]api.Schema{{Name: "a", Fields: append(fields(8), fields(2)...)[:many]}}, e); got != want {
				t.Errorf("%d of %d: %d", n, many, got)
			}
		}
		for i := range n {
			for kind := -1; kind < 6; kind++ {
				s := api.Schema{Name: "a", Fields: fields(n)}
				want := api.ErrType
				if kind == s.Fields[i].Kind {
					want = api.OK
				}
				s.Fields[i].Kind = kind
				if got := event.Fits([]api.Schema{s}, but(func(e *api.Event) { e.Vals = vals(n) })); got != want {
					t.Errorf("%d of %d is of kind %d: %d", i, n, kind, got)
				}
			}
		}
	}
}
