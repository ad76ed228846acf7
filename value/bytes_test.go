package value_test

import (
	"bytes"
	"math/big"
	"strings"
	"testing"

	"augury/api"
	"augury/value"
)

// put is D3 by its words; nothing, if there is none.
func put(v api.Val) string {
	if !isRight(v) {
		return ""
	}
	b := []byte{byte(v.Kind)}
	switch v.Kind {
	case 2:
		return string(append(b, byte(len(v.S)))) + v.S
	case 3:
		return string(append(b, byte(v.N)))
	}
	twice := new(big.Int).Mul(big.NewInt(v.N), big.NewInt(2))
	if v.N < 0 {
		twice.Neg(twice).Sub(twice, big.NewInt(1))
	}
	for {
		digit := new(big.Int)
		twice.DivMod(twice, big.NewInt(128), digit)
		if twice.Sign() == 0 {
			return string(append(b, byte(digit.Int64())))
		}
		b = append(b, byte(128+digit.Int64()))
	}
}

// likely is the one value that bytes may be the whole of, whether or not they are.
func likely(b []byte) api.Val {
	v := api.Val{Kind: int(b[0])}
	switch v.Kind {
	case 1:
		n := new(big.Int)
		for i := len(b) - 1; i > 0; i-- {
			n.Mul(n, big.NewInt(128)).Add(n, big.NewInt(int64(b[i]%128)))
		}
		if n.Bit(0) == 1 {
			n.Add(n, big.NewInt(1)).Neg(n)
		}
		n.Quo(n, big.NewInt(2))
		if !n.IsInt64() {
			return api.Val{}
		}
		v.N = n.Int64()
	case 2:
		v.S = string(b[min(2, len(b)):])
	case 3:
		v.N = int64(b[len(b)-1])
	}
	return v
}

// get is D3 by its words: a right value with whose bytes b begins.
func get(b []byte) (api.Val, int, bool) {
	for n := 1; n <= min(len(b), 66); n++ {
		if v := likely(b[:n]); put(v) == string(b[:n]) {
			return v, n, true
		}
	}
	return api.Val{}, 0, false
}

// wantGet fails the test unless b begins with just this, as the document's words say.
func wantGet(t *testing.T, b []byte, v api.Val, n int, is bool) {
	t.Helper()
	if got, k, ok := value.Get(b); got != v || k != n || ok != is {
		t.Fatalf("%.80q: got %v %d %v, want %v %d %v", b, got, k, ok, v, n, is)
	}
}

// known are values and their bytes, worked out by hand.
var known = []struct {
	v    api.Val
	want string
}{
	{num(0), "\x01\x00"},
	{num(-1), "\x01\x01"},
	{num(1), "\x01\x02"},
	{num(-2), "\x01\x03"},
	{num(63), "\x01\x7e"},
	{num(-64), "\x01\x7f"},
	{num(64), "\x01\x80\x01"},
	{num(-65), "\x01\x81\x01"},
	{num(65), "\x01\x82\x01"},
	{num(8191), "\x01\xfe\x7f"},
	{num(-8192), "\x01\xff\x7f"},
	{num(8192), "\x01\x80\x80\x01"},
	{num(-8193), "\x01\x81\x80\x01"},
	{num(1 << 39), "\x01\x80\x80\x80\x80\x80\x20"},
	{num(most - 1), "\x01\xfe\xff\xff\xff\xff\x3f"},
	{num(-most), "\x01\xff\xff\xff\xff\xff\x3f"},
	{num(most), "\x01\x80\x80\x80\x80\x80\x40"},
	{text(""), "\x02\x00"},
	{text("a"), "\x02\x01a"},
	{text("ab"), "\x02\x02ab"},
	{text("é"), "\x02\x02\xc3\xa9"},
	{text("\x00\xff\x80"), "\x02\x03\x00\xff\x80"},
	{text(strings.Repeat("a", 64)), "\x02\x40" + strings.Repeat("a", 64)},
	{truth(0), "\x03\x00"},
	{truth(1), "\x03\x01"},
}

// P4.1, D3: bytes of values, and values of bytes.
func TestPutGet(t *testing.T) {
	for _, c := range known {
		if got := string(value.Put(c.v)); got != c.want {
			t.Errorf("%v: got %q, want %q", c.v, got, c.want)
		}
		wantGet(t, []byte(c.want), c.v, len(c.want), true)
	}
}

// P4.1, D3: there is nothing of what is not right.
func TestPutWrong(t *testing.T) {
	for _, v := range wrongs() {
		if b := value.Put(v); len(b) != 0 {
			t.Errorf("%.99v: %q", v, b)
		}
	}
}

// none are bytes that begin with no value's.
var none = []string{
	"", "\x00", "\x01", "\x02", "\x03", "\x04", "\xff",
	"\x00\x00", "\x04\x00", "\x04\x01", "\x05\x00a", "\x81\x00", "\x82\x00", "\x83\x00", "\x83\x01", "\xff\x00", "a", "1",
	"\x01\x80", "\x01\xff", "\x01\x80\x80\x80\x80\x80", "\x01\x80\x80\x80\x80\x80\x80", "\x01\xff\xff\xff\xff\xff\xff\xff\xff\xff\xff",
	"\x01\x80\x00", "\x01\x81\x00", "\x01\xff\x00", "\x01\x80\x80\x00", "\x01\x82\x80\x80\x00", "\x01\x80\x80\x80\x80\x80\x00",
	"\x01\x81\x80\x80\x80\x80\x40", "\x01\x82\x80\x80\x80\x80\x40", "\x01\x80\x80\x80\x80\x80\x41", "\x01\x80\x80\x80\x80\x80\x7f", "\x01\xff\xff\xff\xff\xff\x40",
	"\x01\x80\x80\x80\x80\x80\xc0\x00", "\x01\x80\x80\x80\x80\x80\x80\x01", "\x01\x82\x80\x80\x80\x80\x80\x80\x80\x80\x02", "\x01\x82\x80\x80\x80\x80\x80\x80\x80\x80\x80\x01",
	"\x01" + strings.Repeat("\x80", 9) + "\x01", "\x01" + strings.Repeat("\x80", 10) + "\x01", "\x01" + strings.Repeat("\x80", 64) + "\x02",
	"\x02\x01", "\x02\x02a", "\x02\x40" + strings.Repeat("a", 63), "\x02\x41" + strings.Repeat("a", 65), "\x02\x41" + strings.Repeat("a", 64), "\x02\x7f" + strings.Repeat("a", 127),
	"\x02\x80", "\x02\x80\x00", "\x02\x81\x00a", "\x02\x80\x01" + strings.Repeat("a", 300), "\x02\xc0\x00" + strings.Repeat("a", 300), "\x02\xff" + strings.Repeat("a", 300),
	"\x02\x80\x80\x80\x80\x80\x40" + strings.Repeat("a", 300), "\x02\xff\xff\xff\xff\xff\x7f",
	"\x03\x02", "\x03\x7f", "\x03\x80", "\x03\x81", "\x03\xff", "\x03\x80\x00", "\x03\x81\x00", "\x03\x80\x02", "\x03\x81\x80\x80\x80\x80\x01",
}

// P4.1, D3: bytes that are no value's, with whatever stands behind them that does not help.
func TestGetNone(t *testing.T) {
	wantGet(t, nil, api.Val{}, 0, false)
	for _, s := range none {
		if _, _, is := get([]byte(s)); is {
			t.Fatalf("%q is some", s)
		}
		wantGet(t, []byte(s), api.Val{}, 0, false)
	}
}

// P4.1, D3: whatever stands behind a value's bytes is not of it.
func TestGetBehind(t *testing.T) {
	for _, c := range known {
		for _, behind := range []string{"\x00", "\x01", "\x80", "\xff", "z", "\x01\x02", c.want, strings.Repeat("\x80", 99), strings.Repeat("a", 99)} {
			wantGet(t, []byte(c.want+behind), c.v, len(c.want), true)
		}
	}
}

// P4.1, D3: cut off anywhere, a value's bytes are none's.
func TestGetCut(t *testing.T) {
	for _, v := range rights() {
		b := value.Put(v)
		for n := range len(b) {
			wantGet(t, b[:n], api.Val{}, 0, false)
		}
	}
}

// P4.2 (there and back): each value is got from its bytes, all of them, and
// these are the document's.
func TestThereAndBack(t *testing.T) {
	for _, v := range rights() {
		b := value.Put(v)
		if string(b) != put(v) {
			t.Errorf("%v: got %q, want %q", v, b, put(v))
		}
		wantGet(t, b, v, len(b), true)
		wantGet(t, append(b, 0x81), v, len(b), true)
	}
	for n := int64(-70000); n <= 70000; n++ {
		b := value.Put(num(n))
		wantGet(t, b, num(n), len(b), true)
	}
	for n := int64(-most); n <= most; n += most / 30011 {
		b := value.Put(num(n))
		wantGet(t, b, num(n), len(b), true)
	}
}

// P4.2: values one behind the other are got again, one by one.
func TestThereAndBackMany(t *testing.T) {
	var b []byte
	for _, v := range rights() {
		b = append(b, value.Put(v)...)
	}
	for _, v := range rights() {
		wantGet(t, b, v, len(put(v)), true)
		b = b[len(put(v)):]
	}
	if len(b) != 0 {
		t.Error(len(b))
	}
}

// backAndThere fails the test unless what b begins with puts these bytes again.
func backAndThere(t *testing.T, b []byte) {
	t.Helper()
	v, n, is := get(b)
	wantGet(t, b, v, n, is)
	if is && !bytes.Equal(value.Put(v), b[:n]) {
		t.Fatalf("%q: %v puts %q", b, v, value.Put(v))
	}
}

// P4.2 (back and there): all bytes of up to two, and many of up to eight.
func TestBackAndThere(t *testing.T) {
	backAndThere(t, nil)
	for x := range 256 * 256 {
		b := []byte{byte(x >> 8), byte(x)}
		backAndThere(t, b[:1])
		backAndThere(t, b)
		backAndThere(t, append([]byte{1, b[0]}, b...))
	}
	some := []byte{0x00, 0x01, 0x3f, 0x40, 0x41, 0x7f, 0x80, 0x81, 0xff}
	for x := range 9 * 9 * 9 * 9 {
		b := make([]byte, 4, 8)
		for i := range b {
			b[i] = some[x%9]
			x /= 9
		}
		for kind := range 5 {
			head := []byte{byte(kind)}
			backAndThere(t, append(head, b...))
			backAndThere(t, append(append(head, b...), 0x80, 0x40))
			backAndThere(t, append(append(head, 0x80, 0xff), b...))
			backAndThere(t, append(append(head, 0x80, 0x80, 0x80), b...))
		}
	}
}

// P4.2: unlike values have unlike bytes, and none's begin another one's.
func TestBytesApart(t *testing.T) {
	seen := map[string]api.Val{}
	for _, v := range rights() {
		b := string(value.Put(v))
		if w, is := seen[b]; is && w != v {
			t.Errorf("%q: %v and %v", b, v, w)
		}
		seen[b] = v
	}
	for b, v := range seen {
		for n := range len(b) {
			if w, is := seen[b[:n]]; is {
				t.Errorf("%v begins %v", w, v)
			}
		}
	}
}
