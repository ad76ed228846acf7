package value_test

import (
	"strings"
	"testing"

	"augury/api"
	"augury/value"
)

// is tells whether a comparison of two right values is so; it fails the test, if it may not be asked.
func is(t *testing.T, op int, a, b api.Val) bool {
	t.Helper()
	so, e := value.Compare(op, a, b)
	if e != api.OK {
		t.Fatalf("%d of %v and %v: %d", op, a, b, e)
	}
	return so
}

// ordered are right values of the kinds that have an order, apart.
func ordered() [][]api.Val {
	numbers, texts := []api.Val{}, []api.Val{}
	for _, v := range rights() {
		switch v.Kind {
		case api.Int:
			numbers = append(numbers, v)
		case api.Text:
			texts = append(texts, v)
		}
	}
	return [][]api.Val{numbers, texts}
}

// P4.3: of two values of one kind just one of less, equal, greater is so; all
// other comparisons are told of these, and turned about they are turned about.
func TestJustOne(t *testing.T) {
	for _, l := range ordered() {
		for _, a := range l {
			for _, b := range l {
				less, equal, greater := is(t, api.Lt, a, b), is(t, api.Eq, a, b), is(t, api.Gt, a, b)
				if less && (equal || greater) || equal && greater || !less && !equal && !greater {
					t.Fatalf("%v and %v: %v %v %v", a, b, less, equal, greater)
				}
				if equal != (a == b) || is(t, api.Ne, a, b) == equal || is(t, api.Le, a, b) == greater || is(t, api.Ge, a, b) == less {
					t.Fatalf("%v and %v", a, b)
				}
				if is(t, api.Gt, b, a) != less || is(t, api.Lt, b, a) != greater || is(t, api.Eq, b, a) != equal {
					t.Fatalf("%v and %v turned about", a, b)
				}
			}
		}
	}
}

// P4.3: of two Bools just one of equal and unequal is so.
func TestJustOneOfBools(t *testing.T) {
	for _, a := range []api.Val{truth(0), truth(1)} {
		for _, b := range []api.Val{truth(0), truth(1)} {
			if is(t, api.Eq, a, b) == is(t, api.Ne, a, b) || is(t, api.Eq, a, b) != (a == b) {
				t.Errorf("%v and %v", a, b)
			}
		}
	}
}

// P4.3: what is less than what is less is less.
func TestLessOfLess(t *testing.T) {
	short := []api.Val{}
	for _, s := range []string{"", "\x00", "\x7f", "\x80", "\xff", "a"} {
		for _, u := range []string{"", "\x00", "\x80", "\xff"} {
			short = append(short, text(s+u), text(s+strings.Repeat(u, 2)))
		}
	}
	for _, a := range short {
		for _, b := range short {
			for _, c := range short {
				if is(t, api.Lt, a, b) && is(t, api.Lt, b, c) && !is(t, api.Lt, a, c) {
					t.Fatalf("%v %v %v", a, b, c)
				}
			}
		}
	}
}

// P4.3: a sum less one of both is the other one; what was taken away, added, is there again.
func TestSumLessOne(t *testing.T) {
	sums, lesses := 0, 0
	for _, a := range ordered()[0] {
		for _, b := range ordered()[0] {
			if sum, e := value.Add(a, b); e == api.OK {
				sums++
				one, e := value.Sub(sum, a)
				other, f := value.Sub(sum, b)
				if one != b || other != a || e != api.OK || f != api.OK {
					t.Fatalf("%v and %v: %v less one is %v, less the other one %v", a, b, sum, one, other)
				}
			}
			if less, e := value.Sub(a, b); e == api.OK {
				lesses++
				if again, e := value.Add(less, b); again != a || e != api.OK {
					t.Fatalf("%v less %v: %v", a, b, less)
				}
			}
		}
	}
	if sums < 1000 || lesses < 1000 {
		t.Error(sums, lesses)
	}
}
