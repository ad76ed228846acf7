package lex_test

import (
	"regexp"
	"slices"
	"strings"
	"testing"

	"augury/api"
	"augury/lex"
)

// forms are the document's words of what begins at a place, each with all that hangs together there.
var forms = map[int]*regexp.Regexp{
	api.Word:   regexp.MustCompile(`^[a-z][a-z0-9_]*`),
	api.Number: regexp.MustCompile(`^[0-9]+`),
	api.Quoted: regexp.MustCompile(`^'[ -&(-~]*'`),
	api.Sign:   regexp.MustCompile(`^(?:[!<>]=|[=<>+().?-])`),
}

// fits tells whether that has the size that its kind may have, and a number is one.
func fits(kind int, s string) bool {
	switch kind {
	case api.Word:
		return len(s) <= 16
	case api.Number:
		return s == "0" || s[0] != '0' && (len(s) < 13 || len(s) == 13 && s <= "1099511627776")
	case api.Quoted:
		return len(s) <= 66
	}
	return true
}

// sketch is G1 by its words.
func sketch(text string) ([]api.Token, api.Errno, int) {
	if len(text) > 512 {
		return nil, api.ErrTooMany, 0
	}
	var l []api.Token
	for at := 0; ; {
		at = len(text) - len(strings.TrimLeft(text[at:], " \n"))
		if at == len(text) {
			return l, api.OK, 0
		}
		is := api.Token{At: at}
		for kind, form := range forms {
			if s := form.FindString(text[at:]); s != "" && fits(kind, s) {
				is.Kind, is.Text = kind, s
			}
		}
		if is.Kind == 0 {
			return nil, api.ErrLex, at
		}
		if len(l) == 128 {
			return nil, api.ErrTooMany, at
		}
		at += len(is.Text)
		if is.Kind == api.Quoted {
			is.Text = strings.Trim(is.Text, "'")
		}
		l = append(l, is)
	}
}

// bytesOf are a token's bytes in its text.
func bytesOf(k api.Token) string {
	if k.Kind == api.Quoted {
		return "'" + k.Text + "'"
	}
	return k.Text
}

// written are tokens one behind the other, with a blank between each two, and what is read of that.
func written(l []api.Token, blank string) (string, []api.Token) {
	var b strings.Builder
	var want []api.Token
	for i, k := range l {
		if i > 0 {
			b.WriteString(blank)
		}
		k.At = b.Len()
		want = append(want, k)
		b.WriteString(bytesOf(k))
	}
	return b.String(), want
}

// P7.2: what was read of a text is read again of its tokens, with a blank between each two.
func thereAndBack(t *testing.T, text string, l []api.Token) {
	t.Helper()
	for _, blank := range []string{" ", "\n"} {
		again, want := written(l, blank)
		got, e, at := lex.Read(again)
		if len(again) > 512 {
			refuses(t, again, api.ErrTooMany, 0)
		} else if e != api.OK || at != 0 || !slices.Equal(got, want) {
			t.Fatalf("%q is written %q, and read %v %d %d", text, again, got, e, at)
		}
	}
}

// P7.3: of the text there is nothing ahead of, between and behind the tokens but blanks.
func inRow(t *testing.T, text string, l []api.Token) {
	t.Helper()
	end := 0
	for _, k := range l {
		if k.At < end || strings.Trim(text[end:k.At], " \n") != "" || !strings.HasPrefix(text[k.At:], bytesOf(k)) {
			t.Fatalf("%q: %v behind %d", text, k, end)
		}
		end = k.At + len(bytesOf(k))
	}
	if strings.Trim(text[end:], " \n") != "" {
		t.Fatalf("%q: nothing of what is behind %d", text, end)
	}
}

// holds fails the test unless a text is read as the document says, and its tokens keep P7.2 and P7.3.
func holds(t *testing.T, text string) {
	t.Helper()
	l, e, at := lex.Read(text)
	if want, err, place := sketch(text); e != err || at != place || !slices.Equal(l, want) {
		t.Fatalf("%q: got %v %d %d, want %v %d %d", text, l, e, at, want, err, place)
	}
	if e == api.OK {
		thereAndBack(t, text, l)
		inRow(t, text, l)
	}
}

// tokens are some of all kinds, as they stand in a text.
func tokens() []string {
	return []string{
		"a", "z9_", "_a", "seq", "true", strings.Repeat("a", 16), strings.Repeat("b", 17), "0", "7", "01", "10", "1099511627776", "1099511627777", strings.Repeat("9", 12), "1" + strings.Repeat("0", 13),
		"''", "'a b'", "'~'", "'", "'\n'", "'" + strings.Repeat("q", 64) + "'", "'" + strings.Repeat("q", 65) + "'", "!=", "<=", ">=", "=", "<", ">", "+", "-", "(", ")", ".", "?", "!", ";", "\t", "\r", "\x80", "\xff", "A",
	}
}

// P7.1 to P7.3: each two and three of these, without a blank between, and with some.
func TestTogether(t *testing.T) {
	blanks := []string{"", " ", "\n", "  \n "}
	for _, a := range tokens() {
		for _, blank := range blanks {
			holds(t, blank+a+blank)
		}
		for _, b := range tokens() {
			for _, blank := range blanks {
				holds(t, a+blank+b)
				holds(t, blank+a+blank+blank+b+blank)
			}
			for _, c := range tokens() {
				holds(t, a+b+c)
				holds(t, a+" "+b+c)
			}
		}
	}
}

// P7.1 to P7.3: all short texts of bytes that begin, make longer, or end something.
func TestShort(t *testing.T) {
	const all = "a0'=<! \n_."
	var grow func(text string, n int)
	grow = func(text string, n int) {
		holds(t, text)
		for i := 0; i < len(all) && n > 0; i++ {
			grow(text+all[i:i+1], n-1)
		}
	}
	grow("", 5)
}

// P7.1 to P7.3: every byte, and every two.
func TestTwoBytes(t *testing.T) {
	for x := range 256 {
		holds(t, string([]byte{byte(x)}))
		for y := range 256 {
			holds(t, string([]byte{byte(x), byte(y)}))
		}
	}
}

// dice are numbers that look like thrown ones, the same ones each time.
type dice uint64

func (r *dice) below(n int) int {
	*r = *r*6364136223846793005 + 1442695040888963407
	return int(uint64(*r) >> 33 % uint64(n))
}

// right is a token of some kind, of some size.
func (r *dice) right() string {
	from := func(l string, n int) string {
		b := make([]byte, n)
		for i := range b {
			b[i] = l[r.below(len(l))]
		}
		return string(b)
	}
	switch r.below(4) {
	case 0:
		return from(letters, 1) + from(letters+digits+"_", r.below(16))
	case 1:
		return from("123456789", 1) + from(digits, r.below(12))
	case 2:
		return "'" + from(quotables, r.below(65)) + "'"
	}
	return []string{"!=", "<=", ">=", "=", "<", ">", "+", "-", "(", ")", ".", "?"}[r.below(12)]
}

// P7.1 to P7.3: texts of thrown tokens, that are right but for some.
func TestThrown(t *testing.T) {
	r := dice(7)
	for range 6000 {
		var b strings.Builder
		odds, wild := 1+r.below(4), 2+r.below(300)
		for n := r.below(160); n > 0 && b.Len() < 505; n-- {
			if r.below(wild) == 0 {
				b.WriteByte(byte(r.below(256)))
			}
			s := r.right()
			if len(s) > 512-b.Len() {
				s = "."
			}
			b.WriteString(s)
			for k := r.below(odds); k > 0; k-- {
				b.WriteByte(" \n"[r.below(2)])
			}
		}
		holds(t, b.String())
	}
}

// P7.1 to P7.3: texts of short thrown tokens, about as many as may be.
func TestThrownMany(t *testing.T) {
	r := dice(77)
	for range 3000 {
		var b strings.Builder
		for range 120 + r.below(16) {
			b.WriteString([]string{"a", "0", "''", "=", "!=", "<=", ".", "?", "b ", "7\n", "a1 ", " ("}[r.below(12)])
		}
		if r.below(3) == 0 {
			b.WriteString([]string{";", "01", "!", "'", " ; ", "_"}[r.below(6)])
		}
		b.WriteString(strings.Repeat(")", r.below(6)))
		holds(t, b.String())
	}
}

// P7.2: tokens of a text that has blanks enough are read alike in as many bytes as may be.
func TestWrittenFull(t *testing.T) {
	for _, n := range []int{1, 2, 64, 127, 128} {
		holds(t, strings.Repeat("abc ", n))
		holds(t, strings.Repeat("'' \n", n))
		holds(t, strings.Repeat("<  =", n/2))
	}
	// 128 tokens of 385 bytes are 512 with blanks between; of one more they are too long.
	l, e, _ := lex.Read(strings.Repeat("'a'", 127) + "'bc'")
	if again, _ := written(l, " "); e != api.OK || len(again) != 512 {
		t.Error(e, len(again))
	}
	holds(t, strings.Repeat("'a'", 127)+"'bc'")
	holds(t, strings.Repeat("'a'", 127)+"'bcd'")
	holds(t, strings.Repeat("'ab'", 128))
}
