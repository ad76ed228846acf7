package value_test

import (
	"bytes"
	"math"
	"slices"
	"strings"
	"testing"

	"augury/api"
	"augury/value"
)

// P1: calls end, and none panics, at all arguments.
func TestAllArguments(t *testing.T) {
	l := append(wrongs(), few()...)
	for _, kind := range []int{math.MinInt, -1, 0, 1, 2, 3, 4, math.MaxInt} {
		for _, n := range []int64{math.MinInt64, math.MinInt64 + 1, -1, 0, 1, math.MaxInt64} {
			for _, s := range []string{"", "a", strings.Repeat("\xff", 1<<16)} {
				l = append(l, api.Val{Kind: kind, N: n, S: s})
			}
		}
	}
	for _, a := range l {
		if value.Right(a) != isRight(a) || string(value.Put(a)) != put(a) {
			t.Errorf("%.99v", a)
		}
		for _, b := range l {
			value.Add(a, b)
			value.Sub(a, b)
			for _, op := range []int{math.MinInt, 0, 1, 6, 7, math.MaxInt} {
				value.Compare(op, a, b)
			}
		}
	}
}

// P1: whichever bytes there are, and however many.
func TestManyBytes(t *testing.T) {
	const many = 1 << 20
	for c := range 256 {
		for kind := range 5 {
			b := bytes.Repeat([]byte{byte(c)}, 200)
			b[0] = byte(kind)
			v, n, is := get(b)
			wantGet(t, b, v, n, is)
		}
	}
	for _, c := range []byte{0x80, 0x81, 0xff} {
		for kind := range 5 {
			b := bytes.Repeat([]byte{c}, many)
			b[0] = byte(kind)
			wantGet(t, b, api.Val{}, 0, false)
			b[many-1] = 1
			wantGet(t, b, api.Val{}, 0, false)
		}
	}
}

// P2: with an error, or where there is nothing, all else is zero.
func TestErrorAlone(t *testing.T) {
	for _, a := range few() {
		for _, b := range few() {
			for i, call := range []func(a, b api.Val) (api.Val, api.Errno){value.Add, value.Sub} {
				if v, e := call(a, b); e != api.OK && v != (api.Val{}) {
					t.Errorf("%d of %v and %v: %v beside %d", i, a, b, v, e)
				}
			}
			for op := range 9 {
				if so, e := value.Compare(op, a, b); e != api.OK && so {
					t.Errorf("%d of %v and %v: true beside %d", op, a, b, e)
				}
			}
		}
	}
	for _, s := range none {
		if v, n, is := value.Get([]byte(s)); v != (api.Val{}) || n != 0 || is {
			t.Errorf("%q: %v %d %v", s, v, n, is)
		}
	}
	for _, v := range wrongs() {
		if len(value.Put(v)) != 0 {
			t.Errorf("%.99v", v)
		}
	}
}

// P3: bytes that are handed in are neither changed nor kept, nor is their spare room.
func TestHandedIn(t *testing.T) {
	for _, c := range known {
		room := []byte(c.want + "behind")
		v, n, _ := value.Get(room[:len(c.want)])
		if string(room) != c.want+"behind" {
			t.Errorf("%q", room)
		}
		for i := range room {
			room[i] = '-'
		}
		if v != c.v || n != len(c.want) {
			t.Errorf("%v is kept of what was handed in", v)
		}
	}
}

// P3: bytes that come out are new memory, their spare room too.
func TestComesOut(t *testing.T) {
	for _, c := range known {
		b, other := value.Put(c.v), value.Put(c.v)
		b = b[:cap(b)]
		for i := range b {
			b[i] = '-'
		}
		if string(other) != c.want || string(value.Put(c.v)) != c.want {
			t.Errorf("%v: %q", c.v, other)
		}
	}
}

// P3: the same answers come, whatever was asked in between.
func TestSameAgain(t *testing.T) {
	for _, between := range slices.Concat(wrongs(), few()) {
		value.Right(between)
		value.Add(between, num(1))
		value.Sub(num(1), between)
		value.Compare(api.Lt, between, between)
		value.Get(value.Put(between))
		value.Put(between)
		if v, e := value.Add(num(2), num(3)); v != num(5) || e != api.OK {
			t.Errorf("behind %.99v: %v %d", between, v, e)
		}
		if so, e := value.Compare(api.Lt, text("a"), text("b")); !so || e != api.OK {
			t.Errorf("behind %.99v: %v %d", between, so, e)
		}
		wantGet(t, []byte("\x02\x02ab"), text("ab"), 4, true)
		if string(value.Put(text("ab"))) != "\x02\x02ab" || !value.Right(text("ab")) {
			t.Errorf("behind %.99v", between)
		}
	}
}
