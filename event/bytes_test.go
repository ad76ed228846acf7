package event_test

import (
	"bytes"
	"math/big"
	"slices"
	"strings"
	"testing"

	"augury/api"
	"augury/event"
	"augury/value"
)

// sameEvent tells whether both are alike.
func sameEvent(a, b api.Event) bool {
	return a.Ts == b.Ts && a.Depth == b.Depth && a.Seq == b.Seq && a.Name == b.Name && slices.Equal(a.Vals, b.Vals)
}

// digits are those of a number by the document's words.
func digits(n int64) []byte {
	var b []byte
	left := big.NewInt(n)
	for {
		digit := new(big.Int)
		left.DivMod(left, big.NewInt(128), digit)
		if left.Sign() == 0 {
			return append(b, byte(digit.Int64()))
		}
		b = append(b, byte(128+digit.Int64()))
	}
}

// put is a right event's bytes by E3's words.
func put(e api.Event) []byte {
	b := slices.Concat(digits(e.Ts), digits(int64(e.Depth)), digits(e.Seq), digits(int64(len(e.Name))), []byte(e.Name), digits(int64(len(e.Vals))))
	for _, v := range e.Vals {
		b = append(b, value.Put(v)...)
	}
	return b
}

// cutter takes bytes from the front, as long as they are what they should be.
type cutter struct {
	b  []byte
	is bool
}

// number is the next one, of at most so much, whose digits are as they are written.
func (c *cutter) number(most int64) int64 {
	end := bytes.IndexFunc(c.b, func(r rune) bool { return r < 128 })
	if end < 0 || end > 0 && c.b[end] == 0 {
		c.is, c.b = false, nil
		return 0
	}
	n := new(big.Int)
	for i := end; i >= 0; i-- {
		n.Mul(n, big.NewInt(128)).Add(n, big.NewInt(int64(c.b[i]%128)))
	}
	c.b = c.b[end+1:]
	if n.Cmp(big.NewInt(most)) > 0 {
		c.is, c.b = false, nil
		return 0
	}
	return n.Int64()
}

// word is the next one, of so many bytes.
func (c *cutter) word(n int64) string {
	if n > int64(len(c.b)) || !isWord(string(c.b[:n])) {
		c.is, c.b = false, nil
		return ""
	}
	s := string(c.b[:n])
	c.b = c.b[n:]
	return s
}

// get is the event whose bytes b is, by E3's words, one thing behind the other.
func get(b []byte) (api.Event, bool) {
	c := cutter{b, true}
	var e api.Event
	e.Ts = c.number(most)
	e.Depth = int(c.number(3))
	e.Seq = c.number(most)
	e.Name = c.word(c.number(16))
	for range c.number(8) {
		v, n, is := value.Get(c.b)
		c.b, c.is = c.b[n:], c.is && is
		e.Vals = append(e.Vals, v)
	}
	if !c.is || len(c.b) > 0 {
		return api.Event{}, false
	}
	return e, true
}

// wantGet fails the test unless b is just this event's bytes, or none's, as the document's words say.
func wantGet(t *testing.T, b []byte, e api.Event, is bool) {
	t.Helper()
	if got, ok := event.Get(b); ok != is || !sameEvent(got, e) {
		t.Fatalf("%.80q: got %v %v, want %v %v", b, got, ok, e, is)
	}
}

// known are events and their bytes, worked out by hand.
var known = []struct {
	e    api.Event
	want string
}{
	{api.Event{Name: "a"}, "\x00\x00\x00\x01a\x00"},
	{api.Event{Ts: 1, Depth: 2, Seq: 3, Name: "ab"}, "\x01\x02\x03\x02ab\x00"},
	{api.Event{Ts: 127, Depth: 3, Seq: 128, Name: "z_9"}, "\x7f\x03\x80\x01\x03z_9\x00"},
	{api.Event{Ts: 300, Seq: 2, Name: "a", Vals: []api.Val{num(1), truth(1)}}, "\xac\x02\x00\x02\x01a\x02\x01\x02\x03\x01"},
	{api.Event{Ts: 16383, Seq: 16384, Name: "a", Vals: []api.Val{text("x")}}, "\xff\x7f\x00\x80\x80\x01\x01a\x01\x02\x01x"},
	{api.Event{Ts: 1 << 40, Depth: 1, Seq: 1<<40 - 1, Name: "a"}, "\x80\x80\x80\x80\x80\x20\x01\xff\xff\xff\xff\xff\x1f\x01a\x00"},
	{api.Event{Ts: 1<<40 - 1, Seq: 1 << 40, Name: "a"}, "\xff\xff\xff\xff\xff\x1f\x00\x80\x80\x80\x80\x80\x20\x01a\x00"},
	{api.Event{Name: "abcdefghijklmnop", Vals: []api.Val{num(-1), text(""), truth(0), num(64), num(0), num(0), num(0), num(0)}}, "\x00\x00\x00\x10abcdefghijklmnop\x08\x01\x01\x02\x00\x03\x00\x01\x80\x01\x01\x00\x01\x00\x01\x00\x01\x00"},
}

// P5.1, E3: bytes of events, and events of bytes.
func TestPutGet(t *testing.T) {
	for _, c := range known {
		if got := string(event.Put(c.e)); got != c.want {
			t.Errorf("%v: got %q, want %q", c.e, got, c.want)
		}
		wantGet(t, []byte(c.want), c.e, true)
	}
}

// P5.1, E3: there is nothing of what is not right.
func TestPutWrong(t *testing.T) {
	for _, e := range wrongs() {
		if b := event.Put(e); len(b) != 0 {
			t.Errorf("%.99v: %.99q", e, b)
		}
	}
}

// none are bytes that are no event's.
var none = []string{
	"", "\x00", "\x01", "\x80", "\xff", "a", "\x00\x00\x00", "\x00\x00\x00\x00", "\x00\x00\x00\x00\x00", "\x00\x00\x00\x01", "\x00\x00\x00\x01a",
	// A time, a depth and a number that are too great.
	"\x81\x80\x80\x80\x80\x20\x00\x00\x01a\x00", "\x80\x80\x80\x80\x80\x40\x00\x00\x01a\x00", "\xff\xff\xff\xff\xff\x7f\x00\x00\x01a\x00", "\x80\x80\x80\x80\x80\x80\x01\x00\x00\x01a\x00",
	"\x80\x80\x80\x80\x80\x80\x80\x80\x80\x02\x00\x00\x01a\x00", "\x80\x80\x80\x80\x80\x80\x80\x80\x80\x80\x01\x00\x00\x01a\x00", "\xff\xff\xff\xff\xff\xff\xff\xff\xff\x01\x00\x00\x01a\x00",
	"\x00\x04\x00\x01a\x00", "\x00\x7f\x00\x01a\x00", "\x00\x80\x01\x00\x01a\x00", "\x00\x80\x02\x00\x01a\x00", "\x00\x80\x80\x80\x80\x10\x00\x01a\x00", "\x00\x80\x80\x80\x80\x80\x80\x80\x80\x80\x02\x00\x01a\x00", "\x00\x81\x80\x80\x80\x80\x80\x80\x80\x80\x02\x00\x01a\x00",
	"\x00\x00\x81\x80\x80\x80\x80\x20\x01a\x00", "\x00\x00\x80\x80\x80\x80\x80\x40\x01a\x00", "\x00\x00\x80\x80\x80\x80\x80\x80\x01\x01a\x00", "\x00\x00\x80\x80\x80\x80\x80\x80\x80\x80\x80\x80\x80\x01a\x00",
	// A 0 that is last of several digits.
	"\x80\x00\x00\x00\x01a\x00", "\x81\x00\x00\x00\x01a\x00", "\x80\x80\x00\x00\x00\x01a\x00", "\x80\x80\x80\x80\x80\x00\x00\x00\x01a\x00", "\x80\x80\x80\x80\x80\xa0\x00\x00\x00\x01a\x00", "\x80\x80\x80\x80\x80\x80\x00\x00\x00\x01a\x00",
	"\x00\x80\x00\x00\x01a\x00", "\x00\x83\x00\x00\x01a\x00", "\x00\x00\x80\x00\x01a\x00", "\x00\x00\xff\x00\x01a\x00", "\x00\x00\x00\x81\x00a\x00", "\x00\x00\x00\x81\x80\x00a\x00", "\x00\x00\x00\x01a\x80\x00", "\x00\x00\x00\x01a\x81\x00\x01\x00",
	// A length that is too great, or beyond what is there.
	"\x00\x00\x00\x02a", "\x00\x00\x00\x02a\x00", "\x00\x00\x00\x03a\x00", "\x00\x00\x00\x10abcdefghijklmno", "\x00\x00\x00\x11abcdefghijklmnopq\x00", "\x00\x00\x00\x7fa\x00", "\x00\x00\x00\x80\x01a\x00", "\x00\x00\x00\x80\x80\x80\x80\x80\x20a\x00",
	"\x00\x00\x00\xff\xff\xff\xff\xff\x7fa\x00", "\x00\x00\x00\xff\xff\xff\xff\xff\xff\xff\xff\x7fa\x00", "\x00\x00\x00\xff\xff\xff\xff\xff\xff\xff\xff\xff\x01a\x00", "\x00\x00\x00\x90\x80\x80\x80\x80\x80\x80\x80\x80\x02abcdefghijklmnop\x00",
	"\x00\x00\x00\x10abc", "\x00\x00\x00\x80\x02" + strings.Repeat("a", 256) + "\x00",
	// A name that is no word.
	"\x00\x00\x00\x01A\x00", "\x00\x00\x00\x010\x00", "\x00\x00\x00\x01_\x00", "\x00\x00\x00\x02a-\x00", "\x00\x00\x00\x02aB\x00", "\x00\x00\x00\x02a\x00\x00", "\x00\x00\x00\x02\xc3\xa9\x00",
	// Values that are more or fewer than are said, or none.
	"\x00\x00\x00\x01a\x01", "\x00\x00\x00\x01a\x02\x01\x00", "\x00\x00\x00\x01a\x01\x01\x00\x01\x00", "\x00\x00\x00\x01a\x00\x01\x00", "\x00\x00\x00\x01a\x00\x00", "\x00\x00\x00\x01a\x01\x00", "\x00\x00\x00\x01a\x01\x04\x00", "\x00\x00\x00\x01a\x01\x01\x80\x00",
	"\x00\x00\x00\x01a\x01\x03\x02", "\x00\x00\x00\x01a\x01\x02\x02a", "\x00\x00\x00\x01a\x01\x01\x81\x80\x80\x80\x80\x40", "\x00\x00\x00\x01a\x09" + "\x01\x00\x01\x00\x01\x00\x01\x00\x01\x00\x01\x00\x01\x00\x01\x00\x01\x00",
	"\x00\x00\x00\x01a\x09" + "\x01\x00\x01\x00\x01\x00\x01\x00\x01\x00\x01\x00\x01\x00\x01\x00", "\x00\x00\x00\x01a\x88\x80\x80\x80\x80\x80\x80\x80\x80\x02" + "\x01\x00\x01\x00\x01\x00\x01\x00\x01\x00\x01\x00\x01\x00\x01\x00",
	"\x00\x00\x00\x01a\xff\xff\xff\xff\xff\x7f", "\x00\x00\x00\x01a\xff\xff\xff\xff\xff\xff\xff\xff\x7f",
	// A thing too few.
	"\x00\x00\x01a\x00", "\x00\x01a\x00", "\x01a\x00",
}

// P5.1, E3: bytes that are no event's.
func TestGetNone(t *testing.T) {
	wantGet(t, nil, api.Event{}, false)
	for _, s := range none {
		wantGet(t, []byte(s), api.Event{}, false)
		if _, is := get([]byte(s)); is {
			t.Errorf("%q is some", s)
		}
	}
}

// P5.2 (there and back): each event is got from its bytes, and these are the document's.
func TestThereAndBack(t *testing.T) {
	for _, e := range rights() {
		b := event.Put(e)
		if !bytes.Equal(b, put(e)) {
			t.Errorf("%v: got %q, want %q", e, b, put(e))
		}
		wantGet(t, b, e, true)
	}
}

// P5.2: what is cut is none, nor is what has something behind it, or ahead.
func TestCut(t *testing.T) {
	for _, e := range rights() {
		b := event.Put(e)
		for n := range len(b) {
			wantGet(t, b[:n], api.Event{}, false)
		}
		for x := range 256 {
			wantGet(t, append(slices.Clone(b), byte(x)), api.Event{}, false)
		}
		wantGet(t, slices.Concat(b, b), api.Event{}, false)
	}
}

// backAndThere fails the test unless bytes are an event's just if they should
// be, and are put again then.
func backAndThere(t *testing.T, b []byte) {
	t.Helper()
	e, is := get(b)
	wantGet(t, b, e, is)
	if is && !bytes.Equal(event.Put(e), b) {
		t.Fatalf("%q: %v puts %q", b, e, event.Put(e))
	}
}

// P5.2 (back and there): bytes of events of which one is another one, is gone, or is there twice.
func TestBackAndThere(t *testing.T) {
	for _, c := range known {
		b := []byte(c.want)
		for i := range b {
			backAndThere(t, slices.Delete(slices.Clone(b), i, i+1))
			for x := range 256 {
				other := slices.Clone(b)
				other[i] = byte(x)
				backAndThere(t, other)
				backAndThere(t, slices.Insert(slices.Clone(b), i, byte(x)))
			}
		}
	}
}

// P5.2: many bytes of which all that is there are digits, and little of names.
func TestBackAndThereDigits(t *testing.T) {
	some := []byte{0x00, 0x01, 0x02, 0x03, 0x7f, 0x80, 0x81, 0xff, 'a'}
	events := 0
	for x := range 9 * 9 * 9 * 9 * 9 * 9 {
		b := make([]byte, 6, 8)
		for i := range b {
			b[i] = some[x%9]
			x /= 9
		}
		backAndThere(t, b)
		backAndThere(t, append([]byte{0, 0, 0}, b...))
		if _, is := get(b); is {
			events++
		}
	}
	// A time and a number of six each, a depth of four, one name, and no value.
	if events != 6*4*6 {
		t.Error(events)
	}
}

// P5.2: unlike events have unlike bytes.
func TestBytesApart(t *testing.T) {
	seen := map[string]api.Event{}
	for _, e := range rights() {
		b := string(event.Put(e))
		if f, is := seen[b]; is && !sameEvent(e, f) {
			t.Errorf("%q: %v and %v", b, e, f)
		}
		seen[b] = e
	}
	if len(seen) < len(times())*len(times()) {
		t.Error(len(seen))
	}
}
