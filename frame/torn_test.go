package frame_test

import (
	"slices"
	"strconv"
	"strings"
	"testing"

	"augury/frame"
)

// rows are records of all sorts: none, empty ones, ones that look like frames, the longest.
func rows() [][]string {
	r := dice(7)
	all := [][]string{
		nil,
		{""},
		{"", "", ""},
		{"a"},
		{"a", "", "b", ""},
		{"R", "RR", "R\x00\x00", "R\x00\x00\x01\x01"},
		{string(frame.Put("inner")), string(frame.Put("")) + "R"},
		{"\x00", "\x00\x00", "\xff", "\xff\xff", "\xf9", "\xee", "\xf8\xfb", "\xed\x02"},
		{strings.Repeat("x", 255), strings.Repeat("x", 256), strings.Repeat("x", 257)},
		{strings.Repeat("\xff", 4096), "", strings.Repeat("\x00", 4095), strings.Repeat("R", 4096)},
	}
	for range 40 {
		var l []string
		for range r.below(9) {
			l = append(l, r.rec(r.below(60)))
		}
		all = append(all, l)
	}
	return all
}

// putAll is the frames of records, one behind the other, and where each one ends.
func putAll(l []string) ([]byte, []int) {
	var b []byte
	var ends []int
	for _, rec := range l {
		b = append(b, frame.Put(rec)...)
		ends = append(ends, len(b))
	}
	return b, ends
}

// P2.2 (there and back): what is put is cut to the same records, and all of its bytes.
func TestThereAndBack(t *testing.T) {
	for _, l := range rows() {
		b, _ := putAll(l)
		wantCut(t, b, l, len(b))
	}
}

// P2.2: each record alone, of every byte and of every length there may be.
func TestThereAndBackAlone(t *testing.T) {
	r := dice(3)
	for n := range 4097 {
		rec := r.rec(n)
		wantCut(t, frame.Put(rec), []string{rec}, n+5)
	}
	for c := range 256 {
		rec := string([]byte{byte(c)})
		wantCut(t, frame.Put(rec), []string{rec}, 6)
	}
}

// P2.2: what is too long puts nothing, so that there is nothing to cut.
func TestThereAndBackTooLong(t *testing.T) {
	b, _ := putAll([]string{"a", strings.Repeat("x", 4097), "b"})
	wantCut(t, b, []string{"a", "b"}, 12)
}

// P2.3 (torn): cut off anywhere, those are left whose frames are whole.
func TestTorn(t *testing.T) {
	for _, l := range rows() {
		b, ends := putAll(l)
		for n := range len(b) + 1 {
			whole := 0
			size := 0
			for whole < len(ends) && ends[whole] <= n {
				size = ends[whole]
				whole++
			}
			wantCut(t, b[:n], l[:whole], size)
		}
	}
}

// P2.3: a frame that ends a byte too early is none; what is put behind a torn
// end is not found, unless it makes the frame whole.
func TestTornThenMore(t *testing.T) {
	b, _ := putAll([]string{"one", "two"})
	more := frame.Put("three")
	for n := range len(b) + 1 {
		torn := append(slices.Clone(b[:n]), more...)
		l, k := cut(torn)
		if n != 0 && n != 8 && n != 16 && k > n {
			t.Fatal(n, "is whole by chance")
		}
		wantCut(t, torn, l, k)
	}
	wantCut(t, append(slices.Clone(b[:15]), 'o'), []string{"one", "two"}, 16)
	wantCut(t, append(slices.Clone(b[:15]), 'p'), []string{"one"}, 8)
}

// P2.1 and P2.3: a byte that is changed has its frame be none (but by 251, which
// no sum sees), and those ahead of it stay.
func TestChangedByte(t *testing.T) {
	b, _ := putAll([]string{"first", "\x00\xfb", "third"})
	for i := range b {
		for c := range 256 {
			changed := slices.Clone(b)
			changed[i] = byte(c)
			l, n := cut(changed)
			wantCut(t, changed, l, n)
		}
	}
	l := []string{"first", "\x00\xfb", "third"}
	starts := []int{0, 10, 17, len(b)}
	for k, rec := range l {
		for i := starts[k]; i < starts[k+1]; i++ {
			t.Run(strconv.Itoa(i), func(t *testing.T) {
				changed := slices.Clone(b)
				changed[i] ^= 0x08
				wantCut(t, changed, l[:k], starts[k])
				if in := i - starts[k] - 5; in >= 0 && rec[in] == '\x00' {
					changed[i] = 251
					wantCut(t, changed, []string{"first", "\xfb\xfb", "third"}, len(b))
				}
			})
		}
	}
}
