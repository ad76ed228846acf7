package event_test

import (
	"bytes"
	"math"
	"slices"
	"strings"
	"testing"

	"augury/api"
	"augury/event"
)

// P1: calls end, and none panics, at all arguments.
func TestAllArguments(t *testing.T) {
	texts := append(noWords(), words()...)
	schemas := append(wrongSchemas(), rightSchemas()...)
	for _, s := range schemas {
		for _, name := range []string{"", "a", "f0", strings.Repeat("\xff", 1<<16)} {
			event.Field(s, name)
			event.Find([]api.Schema{s, s}, name)
		}
	}
	for _, s := range texts {
		event.Word(s)
		event.Find(schemas, s)
	}
	events := append(wrongs(), api.Event{Ts: math.MinInt64, Depth: math.MinInt, Seq: math.MinInt64}, api.Event{Ts: math.MaxInt64, Depth: math.MaxInt, Seq: math.MaxInt64}, base())
	for _, e := range events {
		event.Put(e)
		event.Fits(schemas, e)
		event.Fits(nil, e)
		for _, f := range events {
			event.Less(e, f)
		}
	}
}

// P1: whichever bytes there are, and however many.
func TestManyBytes(t *testing.T) {
	const many = 1 << 20
	for c := range 256 {
		for n := range 70 {
			backAndThere(t, bytes.Repeat([]byte{byte(c)}, n))
			backAndThere(t, append([]byte{0, 0, 0, 1, 'a'}, bytes.Repeat([]byte{byte(c)}, n)...))
		}
	}
	for _, c := range []byte{0, 1, 'a', 0x7f, 0x80, 0x81, 0xff} {
		for _, head := range []string{"", "\x00\x00\x00", "\x00\x00\x00\x10", "\x00\x00\x00\x01a", "\x00\x00\x00\x01a\x08", "\x00\x00\x00\x01a\x01\x02"} {
			wantGet(t, append([]byte(head), bytes.Repeat([]byte{c}, many)...), api.Event{}, false)
		}
	}
}

// P2: where there is nothing, all else is zero.
func TestNothingElse(t *testing.T) {
	for _, s := range none {
		if e, is := event.Get([]byte(s)); is || !sameEvent(e, api.Event{}) {
			t.Errorf("%q: %v %v", s, e, is)
		}
	}
	l := []api.Schema{{Name: "a", Fields: fields(3)}}
	for _, name := range noWords() {
		if s, is := event.Find(l, name); is || s.Name != "" || len(s.Fields) > 0 {
			t.Errorf("%.99q: %v %v", name, s, is)
		}
		if at, kind := event.Field(l[0], name); at != -1 || kind != 0 {
			t.Errorf("%.99q: %d %d", name, at, kind)
		}
	}
	for _, e := range wrongs() {
		if len(event.Put(e)) > 0 {
			t.Errorf("%.99v", e)
		}
	}
}

// P2: of several errors that is told which the words name first.
func TestFirstError(t *testing.T) {
	e := but(func(e *api.Event) { e.Name, e.Vals = "b", append(vals(2), num(most+1)) })
	for i, l := range [][]api.Schema{nil, {{Name: "a"}}, {{Name: "b"}}, {{Name: "b", Fields: fields(3)}}} {
		if got := event.Fits(l, e); got != api.ErrArg {
			t.Error(i, got)
		}
	}
	if got := event.Fits([]api.Schema{{Name: "b"}}, base()); got != api.ErrNone {
		t.Error(got)
	}
}

// P3: what is handed in is neither changed, nor is its spare room, nor kept.
func TestHandedIn(t *testing.T) {
	for _, c := range known {
		room := []byte(c.want + "behind")
		e, is := event.Get(room[:len(c.want)])
		if string(room) != c.want+"behind" {
			t.Errorf("%q", room)
		}
		for i := range room {
			room[i] = '-'
		}
		if !is || !sameEvent(e, c.e) {
			t.Errorf("%v is kept of what was handed in", e)
		}
	}
	given, fs := vals(8), fields(8)
	l := []api.Schema{{Name: "b"}, {Name: "a", Fields: fs[:3]}, {Name: "c"}}
	e := but(func(e *api.Event) { e.Vals = given[:3] })
	event.Put(e)
	event.Fits(l[:2], e)
	event.Less(e, e)
	event.Schema(l[1])
	event.Find(l[:2], "a")
	event.Field(l[1], "f1")
	if !slices.Equal(given, vals(8)) || !slices.Equal(fs, fields(8)) || l[0].Name != "b" || l[2].Name != "c" || !sameSchema(l[1], api.Schema{Name: "a", Fields: fields(3)}) || len(e.Vals) != 3 {
		t.Error(given, fs, l, e)
	}
}

// P3: a list that comes out is new memory, its spare room too.
func TestComesOut(t *testing.T) {
	fs := fields(8)
	l := []api.Schema{{Name: "a", Fields: fs[:3]}}
	one, _ := event.Find(l, "a")
	other, _ := event.Find(l, "a")
	one.Fields = one.Fields[:cap(one.Fields)]
	for i := range one.Fields {
		one.Fields[i] = field("changed")
	}
	if !slices.Equal(fs, fields(8)) || !slices.Equal(other.Fields, fields(3)) {
		t.Error(fs, other)
	}
	for _, c := range known {
		b, again := event.Put(c.e), event.Put(c.e)
		e, _ := event.Get(again)
		f, _ := event.Get(again)
		e.Vals = e.Vals[:cap(e.Vals)]
		for i := range e.Vals {
			e.Vals[i] = num(77)
		}
		b = b[:cap(b)]
		for i := range b {
			b[i] = '-'
		}
		if string(again) != c.want || string(event.Put(c.e)) != c.want || !sameEvent(f, c.e) {
			t.Errorf("%v: %q %v", c.e, again, f)
		}
	}
	// An empty list has spare room too.
	fs = fields(8)
	s, _ := event.Find([]api.Schema{{Name: "a", Fields: fs[:0]}}, "a")
	_ = append(s.Fields, field("changed"))
	if !slices.Equal(fs, fields(8)) {
		t.Error(fs)
	}
}

// P3: the same answers come, whatever was asked in between.
func TestSameAgain(t *testing.T) {
	l := []api.Schema{{Name: "a", Fields: fields(3)}}
	for _, between := range slices.Concat(wrongs(), rights()) {
		b := event.Put(between)
		event.Get(b)
		event.Get(b[:len(b)/2])
		event.Fits(l, between)
		event.Less(between, base())
		event.Find(l, between.Name)
		event.Field(l[0], between.Name)
		event.Word(between.Name)
		event.Schema(api.Schema{Name: between.Name})
		if string(event.Put(base())) != string(put(base())) || event.Fits(l, base()) != api.OK || !event.Less(api.Event{Seq: 1}, base()) || !event.Word("a") || !event.Schema(l[0]) {
			t.Errorf("behind %.99v", between)
		}
		wantGet(t, put(base()), base(), true)
	}
}
