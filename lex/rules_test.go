package lex_test

import (
	"bytes"
	"slices"
	"strings"
	"sync"
	"testing"

	"augury/api"
	"augury/lex"
)

// P1: calls end, and none panics, whichever bytes there are, and however many.
func TestAllArguments(t *testing.T) {
	for x := range 256 {
		for _, n := range []int{0, 1, 2, 16, 17, 64, 65, 66, 67, 128, 129, 511, 512, 513, 1 << 16} {
			for _, ahead := range []string{"", "a", "1", "'", "''", "!", "<", " "} {
				s := ahead + string(bytes.Repeat([]byte{byte(x)}, n))
				lex.Read(s)
				lex.Key(s)
			}
		}
	}
	for _, s := range []string{strings.Repeat("a", 1<<24), strings.Repeat(" ", 1<<24), strings.Repeat("'", 1<<24)} {
		refuses(t, s, api.ErrTooMany, 0)
		if lex.Key(s) {
			t.Errorf("%.9q", s)
		}
	}
}

// P1: a text may end anywhere.
func TestCut(t *testing.T) {
	const text = "seq a x then not b or c y+ where x.v >= 10 and sum(y.w) != 'o k' - 1099511627776 within 5 by id pick strict ?"
	for i := range len(text) + 1 {
		holds(t, text[:i])
		holds(t, text[i:])
		holds(t, text[:i]+"\xff"+text[i:])
		holds(t, text[:i]+"\n"+text[i:])
	}
}

// P2: with an error there is no token, and without one no place.
func TestNothingElse(t *testing.T) {
	for _, s := range wrongs() {
		for _, ahead := range aheads() {
			if l, e, _ := lex.Read(ahead + s); e == api.OK || len(l) != 0 {
				t.Errorf("%.99q: %v %d", ahead+s, l, e)
			}
		}
	}
	for _, s := range aheads() {
		if _, e, at := lex.Read(s); e != api.OK || at != 0 {
			t.Errorf("%q: %d %d", s, e, at)
		}
	}
	for _, n := range []int{129, 200} {
		if l, e, _ := lex.Read(strings.Repeat("a ", n)); e != api.ErrTooMany || len(l) != 0 {
			t.Error(n, l, e)
		}
	}
}

// P2: of several errors that is told which the words name first.
func TestFirstError(t *testing.T) {
	refuses(t, strings.Repeat(";", 513), api.ErrTooMany, 0)
	refuses(t, "a 01 ; '", api.ErrLex, 2)
	refuses(t, strings.Repeat("a ", 128)+"01", api.ErrLex, 256)
}

// P3: what was handed in may be changed behind the call, and nothing of it is kept.
func TestHandedIn(t *testing.T) {
	for _, s := range []string{"a1 >= 10 'x y' != (b.c)?", "", " \n"} {
		room := []byte(s + "behind")
		want, _, _ := sketch(s)
		l, e, _ := lex.Read(string(room[:len(s)]))
		for i := range room {
			room[i] = '-'
		}
		if e != api.OK || !slices.Equal(l, want) {
			t.Errorf("%q: %v %d", s, l, e)
		}
	}
}

// P3: a list that comes out is new memory, its spare room too.
func TestComesOut(t *testing.T) {
	for n := range 129 {
		text := strings.Repeat("a ", n)
		one, _, _ := lex.Read(text)
		other, _, _ := lex.Read(text)
		one = one[:cap(one)]
		for i := range one {
			one[i] = sign("?", 77)
		}
		again, _, _ := lex.Read(text)
		if want, _, _ := sketch(text); !slices.Equal(other, want) || !slices.Equal(again, want) {
			t.Errorf("%d: %v %v", n, other, again)
		}
		_ = append(other, sign("(", 1))
		if last, _, _ := lex.Read(text + "b"); n < 128 && last[n] != word("b", 2*n) {
			t.Error(n, last)
		}
	}
}

// P3: the same answers come, whatever was asked in between.
func TestSameAgain(t *testing.T) {
	const text = "a1>='b'(0"
	want := []api.Token{word("a1", 0), sign(">=", 2), quoted("b", 4), sign("(", 7), number("0", 8)}
	for _, between := range slices.Concat(wrongs(), aheads(), tokens(), strings.Fields(keys), []string{"", strings.Repeat("a ", 129), strings.Repeat(" ", 513)}) {
		lex.Read(between)
		was := lex.Key(between)
		reads(t, text, want...)
		refuses(t, "a ;", api.ErrLex, 2)
		if !lex.Key("seq") || lex.Key("a") || lex.Key(between) != was {
			t.Errorf("behind %.99q", between)
		}
	}
}

// P3: calls that are made at once see nothing of one another.
func TestAtOnce(t *testing.T) {
	var all sync.WaitGroup
	for n := range 8 {
		all.Go(func() {
			for k := range 200 {
				text := strings.Repeat("(", n) + strings.Repeat("x ", k%100)
				l, e, _ := lex.Read(text)
				if want, _, _ := sketch(text); e != api.OK || !slices.Equal(l, want) || !lex.Key("by") {
					t.Errorf("%q: %v %d", text, l, e)
				}
			}
		})
	}
	all.Wait()
}
