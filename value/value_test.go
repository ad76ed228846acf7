package value_test

import (
	"math"
	"strings"
	"testing"

	"augury/api"
	"augury/value"
)

func num(n int64) api.Val { return api.Val{Kind: api.Int, N: n} }

func text(s string) api.Val { return api.Val{Kind: api.Text, S: s} }

func truth(n int64) api.Val { return api.Val{Kind: api.Bool, N: n} }

// all is every byte there is, in order.
func all() string {
	b := make([]byte, 256)
	for i := range b {
		b[i] = byte(i)
	}
	return string(b)
}

// numbers are those at which the count of digits changes, of both signs, and at the bounds.
func numbers() []int64 {
	l := []int64{0, 2, 3, 100, 1000, 123456789}
	for bits := range 41 {
		for d := range int64(3) {
			if n := int64(1)<<bits + d - 1; n <= 1<<40 {
				l = append(l, n, -n)
			}
		}
	}
	return l
}

// texts are of all bytes, and of all lengths; many begin others.
func texts() []string {
	l := []string{"\x00", "\x00\x00", "a", "a\x00", "aa", "ab", "b", "ba", "é", "\x7f", "\x80", "\xff", "\xff\xff", "a\xff", "a\x7f", "0", "10", "9", "A"}
	for n := range api.MaxText + 1 {
		l = append(l, strings.Repeat("a", n), all()[n:2*n], all()[256-n:])
	}
	return append(l, strings.Repeat("é", 32))
}

// rights are values that are right.
func rights() []api.Val {
	l := []api.Val{truth(0), truth(1)}
	for _, n := range numbers() {
		l = append(l, num(n))
	}
	for _, s := range texts() {
		l = append(l, text(s))
	}
	return l
}

// wrongs are values that are not.
func wrongs() []api.Val {
	l := []api.Val{
		num(1<<40 + 1), num(-1<<40 - 1), num(1 << 41), num(-1 << 41), num(math.MaxInt64), num(math.MinInt64),
		{Kind: api.Int, S: "x"}, {Kind: api.Int, N: 1, S: "\x00"}, {Kind: api.Int, N: 1 << 40, S: "x"},
		text(strings.Repeat("a", 65)), text(strings.Repeat("é", 33)), text(strings.Repeat("a", 1<<16)), text(strings.Repeat("a", 256)),
		{Kind: api.Text, N: 1}, {Kind: api.Text, N: -1, S: "a"}, {Kind: api.Text, N: math.MinInt64, S: "a"},
		truth(-1), truth(2), truth(3), truth(256), truth(1 << 40), truth(math.MaxInt64), truth(math.MinInt64),
		{Kind: api.Bool, S: "x"}, {Kind: api.Bool, N: 1, S: "x"}, {Kind: api.Bool, N: 1, S: "\x00"},
	}
	for _, kind := range []int{0, 4, -1, -2, -3, 5, 7, 257, 258, 259, 1<<32 + 1, math.MaxInt, math.MinInt} {
		l = append(l, api.Val{Kind: kind}, api.Val{Kind: kind, N: 1}, api.Val{Kind: kind, S: "a"})
	}
	return l
}

// few are some values of each sort, right and wrong, of which all pairs are gone through.
func few() []api.Val {
	return []api.Val{
		num(0), num(1), num(-1), num(2), num(1 << 39), num(-1 << 39), num(1<<40 - 1), num(1 << 40), num(1 - 1<<40), num(-1 << 40),
		text(""), text("a"), text("ab"), text("b"), text("\x00"), text("\xff"), text("é"), text(strings.Repeat("a", 64)), truth(0), truth(1),
		num(1<<40 + 1), num(-1<<40 - 1), num(math.MinInt64), {Kind: api.Int, S: "x"}, text(strings.Repeat("a", 65)), {Kind: api.Text, N: 1},
		truth(2), truth(-1), {Kind: api.Bool, S: "x"}, {}, {Kind: 4}, {Kind: -1}, {Kind: 4, N: 1, S: "x"},
	}
}

// isRight is what is said ahead of D1.
func isRight(v api.Val) bool {
	return v.Kind == 1 && v.N >= -1099511627776 && v.N <= 1099511627776 && v.S == "" ||
		v.Kind == 2 && v.N == 0 && len(v.S) <= 64 ||
		v.Kind == 3 && (v.N == 0 || v.N == 1) && v.S == ""
}

// P4.1: which values are right.
func TestRight(t *testing.T) {
	for _, v := range rights() {
		if !value.Right(v) {
			t.Errorf("%.99v is right", v)
		}
	}
	for _, v := range wrongs() {
		if value.Right(v) {
			t.Errorf("%.99v is not right", v)
		}
	}
	for _, v := range few() {
		if value.Right(v) != isRight(v) {
			t.Errorf("%.99v", v)
		}
	}
}

// reckoning is one of two values, and what comes of it.
type reckoning struct {
	a, b api.Val
	want int64
	e    api.Errno
}

// wantAll fails the test unless all come as they should.
func wantAll(t *testing.T, call func(a, b api.Val) (api.Val, api.Errno), l []reckoning) {
	t.Helper()
	for _, c := range l {
		v := num(c.want)
		if c.e != api.OK {
			v = api.Val{}
		}
		if got, e := call(c.a, c.b); got != v || e != c.e {
			t.Errorf("%v and %v: got %v and %d, want %v and %d", c.a, c.b, got, e, v, c.e)
		}
	}
}

const most = 1 << 40

// P4.1, D1: sums, up to those that are just right, and those that are not.
func TestAdd(t *testing.T) {
	wantAll(t, value.Add, []reckoning{
		{num(2), num(3), 5, api.OK},
		{num(-2), num(-3), -5, api.OK},
		{num(2), num(-3), -1, api.OK},
		{num(0), num(0), 0, api.OK},
		{num(most), num(0), most, api.OK},
		{num(most - 1), num(1), most, api.OK},
		{num(most / 2), num(most / 2), most, api.OK},
		{num(1 - most), num(-1), -most, api.OK},
		{num(most), num(-most), 0, api.OK},
		{num(most), num(1), 0, api.ErrNumber},
		{num(1), num(most), 0, api.ErrNumber},
		{num(most/2 + 1), num(most / 2), 0, api.ErrNumber},
		{num(most), num(most), 0, api.ErrNumber},
		{num(-most), num(-1), 0, api.ErrNumber},
		{num(-most), num(-most), 0, api.ErrNumber},
	})
}

// P4.1, D1: one less another one; which of both is taken away.
func TestSub(t *testing.T) {
	wantAll(t, value.Sub, []reckoning{
		{num(2), num(5), -3, api.OK},
		{num(5), num(2), 3, api.OK},
		{num(0), num(most), -most, api.OK},
		{num(0), num(-most), most, api.OK},
		{num(most), num(most), 0, api.OK},
		{num(-most), num(-most), 0, api.OK},
		{num(most - 1), num(-1), most, api.OK},
		{num(1 - most), num(1), -most, api.OK},
		{num(most), num(-1), 0, api.ErrNumber},
		{num(-most), num(1), 0, api.ErrNumber},
		{num(1), num(-most), 0, api.ErrNumber},
		{num(most), num(-most), 0, api.ErrNumber},
		{num(-most), num(most), 0, api.ErrNumber},
	})
}

// P4.1, D1: of several errors the one that is named first, on either side.
func TestReckonErrors(t *testing.T) {
	for _, call := range []func(a, b api.Val) (api.Val, api.Errno){value.Add, value.Sub} {
		wantAll(t, call, []reckoning{
			{num(1), text("x"), 0, api.ErrType},
			{text("x"), num(1), 0, api.ErrType},
			{num(1), truth(1), 0, api.ErrType},
			{truth(1), truth(0), 0, api.ErrType},
			{text("1"), text("2"), 0, api.ErrType},
			{text(""), truth(0), 0, api.ErrType},
			{num(1), api.Val{}, 0, api.ErrArg},
			{api.Val{}, num(1), 0, api.ErrArg},
			{text("x"), num(most + 1), 0, api.ErrArg},
			{num(-most - 1), text("x"), 0, api.ErrArg},
			{truth(2), num(1), 0, api.ErrArg},
			{num(1), api.Val{Kind: api.Int, N: 1, S: "x"}, 0, api.ErrArg},
			{num(math.MaxInt64), num(math.MaxInt64), 0, api.ErrArg},
			{num(math.MinInt64), num(math.MinInt64), 0, api.ErrArg},
			{num(most + 1), num(-1), 0, api.ErrArg},
			{num(most + 1), num(1), 0, api.ErrArg},
		})
	}
}

// P4.1, D1: all pairs, against the document's words.
func TestReckonAll(t *testing.T) {
	for _, a := range few() {
		for _, b := range few() {
			sum, less := reckoning{a, b, a.N + b.N, api.OK}, reckoning{a, b, a.N - b.N, api.OK}
			for _, c := range []*reckoning{&sum, &less} {
				switch {
				case !isRight(a) || !isRight(b):
					c.e = api.ErrArg
				case a.Kind != 1 || b.Kind != 1:
					c.e = api.ErrType
				case c.want < -most || c.want > most:
					c.e = api.ErrNumber
				}
			}
			wantAll(t, value.Add, []reckoning{sum})
			wantAll(t, value.Sub, []reckoning{less})
		}
	}
}

// bySign are, of each comparison, the signs at which it is so.
var bySign = map[int]string{api.Eq: "=", api.Ne: "<>", api.Lt: "<", api.Le: "<=", api.Gt: ">", api.Ge: ">="}

// P4.1, D2: each comparison of each two that are less, equal, greater: numbers
// as they are, texts byte by byte.
func TestCompare(t *testing.T) {
	for _, c := range []struct {
		a, b api.Val
		sign string
	}{
		{num(1), num(2), "<"},
		{num(-2), num(-1), "<"},
		{num(-1), num(0), "<"},
		{num(-most), num(most), "<"},
		{num(9), num(10), "<"},
		{num(1<<32 + 1), num(1<<32 + 2), "<"},
		{num(1), num(1 << 32), "<"},
		{num(0), num(0), "="},
		{num(most), num(most), "="},
		{num(-most), num(-most), "="},
		{text(""), text(""), "="},
		{text("ab"), text("ab"), "="},
		{text(""), text("\x00"), "<"},
		{text("a"), text("ab"), "<"},
		{text("a"), text("a\x00"), "<"},
		{text("ab"), text("b"), "<"},
		{text("aaa"), text("ab"), "<"},
		{text("B"), text("a"), "<"},
		{text("10"), text("9"), "<"},
		{text("\x7f"), text("\x80"), "<"},
		{text("z"), text("é"), "<"},
		{text("é"), text("\xff"), "<"},
		{text("\xc3"), text("é"), "<"},
		{text("a\x00b"), text("a\x00c"), "<"},
		{text(strings.Repeat("a", 63)), text(strings.Repeat("a", 64)), "<"},
		{text(strings.Repeat("a", 63) + "b"), text(strings.Repeat("a", 63) + "c"), "<"},
	} {
		back := strings.Map(func(r rune) rune { return map[rune]rune{'<': '>', '=': '='}[r] }, c.sign)
		for op, signs := range bySign {
			if is, e := value.Compare(op, c.a, c.b); is != strings.Contains(signs, c.sign) || e != api.OK {
				t.Errorf("%d of %v and %v: %v %d", op, c.a, c.b, is, e)
			}
			if is, e := value.Compare(op, c.b, c.a); is != strings.Contains(signs, back) || e != api.OK {
				t.Errorf("%d of %v and %v: %v %d", op, c.b, c.a, is, e)
			}
		}
	}
}

// P4.1, D2: Bools are equal or not; all else of them is an error.
func TestCompareBools(t *testing.T) {
	for a := range int64(2) {
		for b := range int64(2) {
			for op := api.Eq; op <= api.Ge; op++ {
				e := api.OK
				if op > api.Ne {
					e = api.ErrType
				}
				wanted := op == api.Eq && a == b || op == api.Ne && a != b
				if is, got := value.Compare(op, truth(a), truth(b)); is != wanted || got != e {
					t.Errorf("%d of %d and %d: %v %d", op, a, b, is, got)
				}
			}
		}
	}
}

// sign is that of two right values of one kind, byte by byte.
func sign(a, b api.Val) string {
	if a.N != b.N {
		return map[bool]string{true: "<", false: ">"}[a.N < b.N]
	}
	for i := range len(a.S) {
		if i >= len(b.S) || a.S[i] > b.S[i] {
			return ">"
		}
		if a.S[i] < b.S[i] {
			return "<"
		}
	}
	return map[bool]string{true: "<", false: "="}[len(a.S) < len(b.S)]
}

// P4.1, D2: all pairs, and ops that are none, against the document's words: of
// several errors there is the one that is named first.
func TestCompareAll(t *testing.T) {
	for _, op := range []int{math.MinInt, -1, 0, 1, 2, 3, 4, 5, 6, 7, 8, 257, 1<<32 + 1, math.MaxInt} {
		for _, a := range few() {
			for _, b := range few() {
				e := api.OK
				switch {
				case !isRight(a) || !isRight(b) || op < 1 || op > 6:
					e = api.ErrArg
				case a.Kind != b.Kind || a.Kind == 3 && op > 2:
					e = api.ErrType
				}
				wanted := e == api.OK && strings.Contains(bySign[op], sign(a, b))
				if is, got := value.Compare(op, a, b); is != wanted || got != e {
					t.Errorf("%d of %v and %v: got %v %d, want %v %d", op, a, b, is, got, wanted, e)
				}
			}
		}
	}
}
