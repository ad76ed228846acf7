package frame_test

import (
	"bytes"
	"slices"
	"strings"
	"testing"

	"augury/frame"
)

// dice are numbers that look like thrown ones, the same ones each time.
type dice uint64

func (r *dice) below(n int) int {
	*r = *r*6364136223846793005 + 1442695040888963407
	return int(uint64(*r) >> 33 % uint64(n))
}

func (r *dice) rec(n int) string {
	b := make([]byte, n)
	for i := range b {
		b[i] = byte(r.below(256))
	}
	return string(b)
}

// sum is B1 in whole numbers.
func sum(rec string) int {
	a, b := 1, 1
	for _, c := range []byte(rec) {
		a = (a + int(c) + 1) % 251
		b = (b + a) % 241
	}
	return a + 256*b
}

// put is the bytes of a frame that says what is told, right or not.
func put(length, sum int, rec string) []byte {
	b := []byte{'R', byte(length >> 8), byte(length), byte(sum >> 8), byte(sum)}
	return append(b, rec...)
}

// right is the frame of a record, whatever its length.
func right(rec string) []byte { return put(len(rec), sum(rec), rec) }

// cut is B3 by its words: as long as b goes on with the frame of the record
// that would stand there.
func cut(b []byte) ([]string, int) {
	var l []string
	n := 0
	for len(b)-n >= 5 {
		length := int(b[n+1])*256 + int(b[n+2])
		if length > 4096 || n+5+length > len(b) {
			break
		}
		rec := string(b[n+5 : n+5+length])
		if !bytes.HasPrefix(b[n:], right(rec)) {
			break
		}
		l = append(l, rec)
		n += 5 + length
	}
	return l, n
}

// wantCut fails the test unless b is cut to just these records, of n bytes.
func wantCut(t *testing.T, b []byte, l []string, n int) {
	t.Helper()
	got, k := frame.Cut(b)
	if !slices.Equal(got, l) || k != n {
		t.Fatalf("%.60q: %d records of %d bytes, want %d of %d: %.60q", b, len(got), k, len(l), n, got)
	}
}

// P2.1, B1: sums worked out by hand. A is 250, 0 or 1 behind \xf8, \xf9, \xfa; B is
// 240, 0 or 1 behind \xed, \xee, \xef; \xf8\xfb takes A twice round, \xed\x02 B.
func TestSum(t *testing.T) {
	for _, c := range []struct {
		rec  string
		a, b int
	}{
		{"", 1, 1},
		{"\x00", 2, 3},
		{"a", 99, 100},
		{"ab", 198, 57},
		{"ba", 198, 58},
		{"\x00\x00", 3, 6},
		{"\xf8", 250, 10},
		{"\xf9", 0, 1},
		{"\xfa", 1, 2},
		{"\xff", 6, 7},
		{"\xf8\xfa", 250, 19},
		{"\xf8\xfb", 0, 10},
		{"\xf8\xfc", 1, 11},
		{"\xf8\xff", 4, 14},
		{"\xed", 239, 240},
		{"\xee", 240, 0},
		{"\xef", 241, 1},
		{"\xed\x01", 241, 240},
		{"\xed\x02", 242, 0},
		{"\xed\x03", 243, 1},
		{"\xed\x0a", 250, 8},
		{"\xfb", 2, 3}, // as of \x00: 251 more is seen by neither
	} {
		if got := frame.Sum(c.rec); got != c.a+256*c.b {
			t.Errorf("%q: got %d and %d, want %d and %d", c.rec, got%256, got/256, c.a, c.b)
		}
	}
}

// P2.1, B1: every byte, every two, and every third one behind some.
func TestSumShort(t *testing.T) {
	for x := range 256 * 256 {
		rec := string([]byte{byte(x >> 8), byte(x)})
		for _, r := range []string{rec[:1], rec, "\xed" + rec, rec + "\xf8\xff"} {
			if got := frame.Sum(r); got != sum(r) {
				t.Fatalf("%q: got %d, want %d", r, got, sum(r))
			}
		}
	}
}

// P2.1, B1: long records, those too that are too long for a frame; a sum takes bytes, not runes.
func TestSumLong(t *testing.T) {
	r := dice(1)
	for _, n := range []int{240, 241, 250, 251, 252, 4095, 4096, 4097, 1 << 16, 1 << 20} {
		for _, rec := range []string{
			strings.Repeat("\x00", n), strings.Repeat("\xff", n), strings.Repeat("é", n), strings.Repeat("\xed\x02", n), r.rec(n),
		} {
			if got := frame.Sum(rec); got != sum(rec) {
				t.Errorf("%d of %.4q: got %d, want %d", n, rec, got, sum(rec))
			}
		}
	}
}

// P2.1, B2: the frame's bytes, with the example of the document.
func TestPut(t *testing.T) {
	for _, c := range []struct{ rec, want string }{
		{"", "R\x00\x00\x01\x01"},
		{"a", "R\x00\x01\x64\x63a"},
		{"ab", "R\x00\x02\x39\xc6ab"},
		{"R", "R\x00\x01\x55\x54R"},
		{"\x00", "R\x00\x01\x03\x02\x00"},
		{"\xf9", "R\x00\x01\x01\x00\xf9"},
		{"\xee", "R\x00\x01\x00\xf0\xee"},
	} {
		if got := frame.Put(c.rec); string(got) != c.want {
			t.Errorf("%q: got %q, want %q", c.rec, got, c.want)
		}
	}
	for _, n := range []int{0, 1, 255, 256, 257, 4095, 4096} {
		rec := strings.Repeat("x", n)
		b := frame.Put(rec)
		if !bytes.Equal(b, right(rec)) || len(b) != n+5 {
			t.Errorf("of %d bytes: %.9q", n, b)
		}
	}
	if b := frame.Put(strings.Repeat("x", 4096)); string(b[:3]) != "R\x10\x00" {
		t.Errorf("%.9q", b)
	}
}

// P2.1, B2: there is nothing of what is longer than 4096 bytes (that these are fewer runes is nothing).
func TestPutTooLong(t *testing.T) {
	for _, rec := range []string{
		strings.Repeat("x", 4097), strings.Repeat("é", 2049), strings.Repeat("x", 1<<16), strings.Repeat("x", 1<<16+1), strings.Repeat("x", 1<<20),
	} {
		if b := frame.Put(rec); len(b) != 0 {
			t.Errorf("of %d bytes: %.9q", len(rec), b)
		}
	}
	if b := frame.Put(strings.Repeat("é", 2048)); len(b) != 4101 {
		t.Error("2048 runes of 4096 bytes", len(b))
	}
}

// P2.1, B3: records, and what stands behind them that is no frame.
func TestCut(t *testing.T) {
	wantCut(t, nil, nil, 0)
	wantCut(t, []byte{}, nil, 0)
	wantCut(t, []byte("R\x00\x00\x01\x01"), []string{""}, 5)
	wantCut(t, []byte("R\x00\x01\x64\x63a"), []string{"a"}, 6)
	wantCut(t, []byte("R\x00\x01\x64\x63aR\x00\x00\x01\x01R\x00\x02\x39\xc6ab"), []string{"a", "", "ab"}, 18)
	for _, rest := range []string{"R", "x", "\x00", "R\x00\x00\x01", "R\x00\x01\x64\x63", "r\x00\x00\x01\x01", "xR\x00\x00\x01\x01", "\x00\x00\x00\x00\x00\x00"} {
		wantCut(t, []byte(rest), nil, 0)
		wantCut(t, []byte("R\x00\x01\x64\x63a"+rest), []string{"a"}, 6)
		wantCut(t, []byte("R\x00\x01\x64\x63aR\x00\x00\x01\x01"+rest), []string{"a", ""}, 11)
	}
}

// P2.1, B3: what is no frame ends it, whichever frames follow.
func TestCutNoFrame(t *testing.T) {
	a := right("a")
	for i, bad := range [][]byte{
		put(1, sum("b"), "a"),
		put(1, sum("a")+1, "a"),
		put(1, sum("a")-256, "a"),
		put(1, sum("a")>>8+sum("a")%256<<8, "a"),
		put(256, sum("a"), "a"),
		put(0, sum("a"), "a"),
		put(2, sum("a"), "a"),
		put(0, 0, ""),
		put(0, 256, ""),
		put(0, 1+1<<8+251, ""),
		put(0, 1+(1+241)<<8, ""),
		append([]byte("S"), a[1:]...),
		append([]byte("\x00"), a[1:]...),
		a[:5],
	} {
		rest := append(slices.Clone(bad), a...)
		if _, n := cut(rest); n != 0 {
			t.Fatal(i, "is a frame")
		}
		wantCut(t, rest, nil, 0)
		wantCut(t, append(slices.Clone(a), rest...), []string{"a"}, 6)
	}
}

// P2.1, B3: a frame that says more length than there is, by one or by many; one that has just as much.
func TestCutMoreThanThere(t *testing.T) {
	for _, n := range []int{0, 1, 2, 255, 256, 4095, 4096} {
		rec := strings.Repeat("\xf9", n)
		wantCut(t, right(rec), []string{rec}, n+5)
		for _, more := range []int{1, 2, 256, 4096, 65535 - n} {
			wantCut(t, put(n+more, sum(rec), rec), nil, 0)
			// The sum of all that is said does not help.
			wantCut(t, put(n+more, sum(rec+strings.Repeat("\xf9", more)), rec), nil, 0)
			wantCut(t, append(right("a"), put(n+more, sum(rec), rec)...), []string{"a"}, 6)
		}
	}
}

// P2.1, B3: a frame that says a length of more than 4096 is none, though all of it is there, and its sum.
func TestCutTooLong(t *testing.T) {
	for _, n := range []int{4096, 4097, 4098, 4352, 8192, 1<<15 - 1, 1 << 15, 1<<16 - 1} {
		rec := strings.Repeat("y", n)
		b := append(right("a"), right(rec)...)
		b = append(b, right("b")...)
		if n > 4096 {
			wantCut(t, b, []string{"a"}, 6)
			wantCut(t, b[6:], nil, 0)
			continue
		}
		wantCut(t, b, []string{"a", rec, "b"}, len(b))
	}
	wantCut(t, []byte("R\x10\x01\x01\x01"), nil, 0)
	wantCut(t, []byte("R\xff\xff\x01\x01"), nil, 0)
}
