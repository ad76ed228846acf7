package frame_test

import (
	"bytes"
	"slices"
	"strings"
	"testing"

	"augury/frame"
)

// P1: calls end, and none panics, whatever the bytes are: ones that mostly look like frames.
func TestAnyBytes(t *testing.T) {
	r := dice(11)
	likely := "RR\x00\x00\x00\x01\x01\x02\x03\x0f\x10\x11\xff"
	for range 20000 {
		var b []byte
		for range r.below(30) {
			switch k := r.below(6); {
			case k < 2:
				b = append(b, frame.Put(r.rec(r.below(4)))...)
			case k < 5:
				b = append(b, likely[r.below(len(likely))])
			default:
				b = append(b, byte(r.below(256)))
			}
		}
		l, n := cut(b)
		wantCut(t, b, l, n)
		if got := frame.Sum(string(b)); got != sum(string(b)) {
			t.Fatalf("%q: %d", b, got)
		}
	}
}

// P1: every head there may be, with nothing, and with something behind it.
func TestAnyHead(t *testing.T) {
	for x := range 1 << 16 {
		for _, b := range [][]byte{put(x, sum(""), ""), put(0, x, ""), put(x, sum("abc"), "abc"), put(3, x, "abc")} {
			l, n := cut(b)
			wantCut(t, b, l, n)
		}
	}
}

// P1: many bytes, of frames or of none, are gone through once.
func TestManyBytes(t *testing.T) {
	const many = 1 << 18
	b := bytes.Repeat(frame.Put(""), many)
	l, n := frame.Cut(b)
	if len(l) != many || n != 5*many {
		t.Error(len(l), n)
	}
	long := bytes.Repeat(frame.Put(strings.Repeat("x", 4096)), 256)
	if l, n := frame.Cut(long); len(l) != 256 || n != len(long) {
		t.Error(len(l), n)
	}
	wantCut(t, bytes.Repeat([]byte("R"), many), nil, 0)
	wantCut(t, make([]byte, many), nil, 0)
}

// P2: where there is nothing, all is zero.
func TestNothing(t *testing.T) {
	if b := frame.Put(strings.Repeat("x", 4097)); len(b) != 0 {
		t.Errorf("%q", b)
	}
	for _, s := range []string{"", "R", "R\x00\x00\x01", "xR\x00\x00\x01\x01", "R\x00\x00\x01\x02"} {
		if l, n := frame.Cut([]byte(s)); len(l) != 0 || n != 0 {
			t.Errorf("%q: %q %d", s, l, n)
		}
	}
}

// P3: bytes that are handed in are neither changed nor kept, nor is their spare room.
func TestHandedIn(t *testing.T) {
	all, _ := putAll([]string{"one", "two", "three"})
	was := slices.Clone(all)
	l, n := frame.Cut(all[:16])
	if !slices.Equal(l, []string{"one", "two"}) || n != 16 || !bytes.Equal(all, was) {
		t.Error(l, n, all)
	}
	for i := range all {
		all[i] = '-'
	}
	if !slices.Equal(l, []string{"one", "two"}) {
		t.Errorf("%q is kept of what was handed in", l)
	}
}

// P3: lists that come out are new memory, their spare room too.
func TestComesOut(t *testing.T) {
	for _, rec := range []string{"", "a", strings.Repeat("x", 4096)} {
		b := frame.Put(rec)
		c := frame.Put(rec)
		for _, x := range []int{len(b), cap(b)} {
			b = b[:x]
			for i := range b {
				b[i] = '-'
			}
		}
		if !bytes.Equal(c, right(rec)) || !bytes.Equal(frame.Put(rec), right(rec)) {
			t.Errorf("%.9q", c)
		}
	}
	in, _ := putAll([]string{"a", "", "b"})
	l, _ := frame.Cut(in)
	m, _ := frame.Cut(in)
	l = l[:cap(l)]
	for i := range l {
		l[i] = "-"
	}
	if !slices.Equal(m, []string{"a", "", "b"}) {
		t.Errorf("%q", m)
	}
	wantCut(t, in, []string{"a", "", "b"}, len(in))
}

// P3: the same answers come, whatever was asked in between.
func TestSameAgain(t *testing.T) {
	in, _ := putAll([]string{"a", "", "b"})
	for _, between := range []string{"", "x", "\xff\xff", strings.Repeat("y", 4097)} {
		frame.Sum(between)
		frame.Put(between)
		frame.Cut([]byte(between))
		if frame.Sum("ab") != 198+256*57 || string(frame.Put("a")) != "R\x00\x01\x64\x63a" {
			t.Errorf("behind %.4q", between)
		}
		wantCut(t, in, []string{"a", "", "b"}, len(in))
	}
}
