package lex_test

import (
	"slices"
	"strings"
	"testing"

	"augury/api"
	"augury/lex"
)

const letters, digits, quotables = "abcdefghijklmnopqrstuvwxyz", "0123456789", " !\"#$%&()*+,-./0123456789:;<=>?@ABCDEFGHIJKLMNOPQRSTUVWXYZ[\\]^_`abcdefghijklmnopqrstuvwxyz{|}~"

func word(s string, at int) api.Token { return api.Token{Kind: api.Word, Text: s, At: at} }

func number(s string, at int) api.Token { return api.Token{Kind: api.Number, Text: s, At: at} }

func quoted(s string, at int) api.Token { return api.Token{Kind: api.Quoted, Text: s, At: at} }

func sign(s string, at int) api.Token { return api.Token{Kind: api.Sign, Text: s, At: at} }

// reads fails the test unless these are the tokens of a text.
func reads(t *testing.T, text string, want ...api.Token) {
	t.Helper()
	if l, e, at := lex.Read(text); e != api.OK || at != 0 || !slices.Equal(l, want) {
		t.Errorf("%.99q: got %v %d %d, want %v", text, l, e, at, want)
	}
}

// refuses fails the test unless a text has no tokens, with this error at this place.
func refuses(t *testing.T, text string, want api.Errno, place int) {
	t.Helper()
	if l, e, at := lex.Read(text); e != want || at != place || len(l) != 0 {
		t.Errorf("%.99q: got %v %d %d, want %d %d", text, l, e, at, want, place)
	}
}

// aheads are what may stand ahead of a token, with blanks that keep them apart; each is right alone.
func aheads() []string {
	return []string{"", " ", "\n", " \n \n\n  ", "a ", "a\n", "x9_ 12 ", "'q' ", "''", "=", "(", " ( ", "!=", "<=\n\n", "?", "1 ", "0\n", "seq a x then b y within 5 ", strings.Repeat("a ", 100)}
}

// wrongs are texts that begin with what is no token.
func wrongs() []string {
	return []string{
		"A", "Z", "Aa", "_", "_a", "__", "_1", "!", "!!", "!!=", "! =", "!a", "!'a'", "!>", ";", ",", ":", "*", "/", "\"", "\"a\"", "`", "@", "[", "]", "^", "{", "|", "}", "~", "#", "$", "%", "&", "\\",
		"\t", "\r", "\x00", "\x0b", "\x7f", "\x80", "\xff", "é", "ａ", "а", "\u00a0", "\u2028",
		"00", "01", "007", "00a", "01a", "1099511627777", "1099511627780", "2099511627776", "1999999999999", "9999999999999", "10000000000000", "12345678901234", "00000000000000", "0000000000000", "01099511627776", "1099511627776000", "10995116277760", "18446744073709551616", "18446744073709551617", "9223372036854775808", strings.Repeat("1", 512), strings.Repeat("0", 512),
		strings.Repeat("a", 17), strings.Repeat("a", 18), strings.Repeat("a", 32), strings.Repeat("a", 512), "a" + strings.Repeat("_", 16), "a" + strings.Repeat("0", 16), "seqthennotorwhere", "z" + strings.Repeat("1_", 8),
		"'", "'a", "'a b", "' ", "'\n'", "'\t'", "'a\nb'", "'\x1f'", "'\x7f'", "'\x80'", "'\xff'", "'\x00'", "'é'", "'a\x1f'", "'\x7fa'", "'" + strings.Repeat("a", 64), "'" + strings.Repeat("a", 65), "'" + strings.Repeat("a", 65) + "'", "'" + strings.Repeat("a", 66) + "'", "'" + strings.Repeat(" ", 65) + "'", "'" + strings.Repeat("a", 64) + "\x1f'", "'" + strings.Repeat("a", 64) + "\n'", "'" + strings.Repeat("é", 32) + "'",
	}
}

// P7.1, G1: the document's example, and a query.
func TestExample(t *testing.T) {
	reads(t, "a>=10", word("a", 0), sign(">=", 1), number("10", 3))
	reads(t, "seq a x then not b y_2\n where x.v != 'o k' within 5",
		word("seq", 0), word("a", 4), word("x", 6), word("then", 8), word("not", 13), word("b", 17), word("y_2", 19),
		word("where", 24), word("x", 30), sign(".", 31), word("v", 32), sign("!=", 34), quoted("o k", 37), word("within", 43), number("5", 50))
}

// P7.1, G1: a text may have no tokens at all.
func TestNoTokens(t *testing.T) {
	for _, s := range []string{"", " ", "\n", "  ", "\n\n", " \n", "\n \n", strings.Repeat(" ", 512), strings.Repeat("\n", 512), strings.Repeat(" \n", 256)} {
		reads(t, s)
	}
}

// P7.1, G1: a text is of 512 bytes at most; what is longer is not looked at.
func TestLength(t *testing.T) {
	for _, n := range []int{1, 2, 500, 511, 512} {
		reads(t, strings.Repeat(" ", n-1)+"a", word("a", n-1))
		reads(t, "a"+strings.Repeat("\n", n-1), word("a", 0))
		refuses(t, strings.Repeat(" ", n-1)+";", api.ErrLex, n-1)
		refuses(t, strings.Repeat(" ", n-1)+"\t", api.ErrLex, n-1)
	}
	for _, n := range []int{513, 514, 1 << 10, 1 << 20} {
		for _, s := range []string{" ", "\n", "a", "a ", "1", ";", "'", "''", "= ", "\x00", "é"} {
			refuses(t, strings.Repeat(s, n)[:n], api.ErrTooMany, 0)
		}
		refuses(t, "; "+strings.Repeat(" ", n-2), api.ErrTooMany, 0)
		refuses(t, "a"+strings.Repeat(" ", n-1), api.ErrTooMany, 0)
		refuses(t, strings.Repeat(" ", n-1)+"a", api.ErrTooMany, 0)
	}
	// What counts is bytes, not runes.
	refuses(t, strings.Repeat("é", 256), api.ErrLex, 0)
	refuses(t, strings.Repeat("é", 257), api.ErrTooMany, 0)
}

// P7.1, G1: words, at all lengths, of all bytes that may be in them.
func TestWord(t *testing.T) {
	for n := 1; n <= 40; n++ {
		for _, s := range []string{strings.Repeat("a", n), strings.Repeat("z", n), "m" + strings.Repeat("_", n-1), "q" + strings.Repeat("9", n-1), ("b" + strings.Repeat("0_c", n))[:n]} {
			if n <= 16 {
				reads(t, s, word(s, 0))
				reads(t, "\n"+s+" ", word(s, 1))
			} else {
				refuses(t, s, api.ErrLex, 0)
				refuses(t, "a "+s+" b", api.ErrLex, 2)
			}
		}
	}
	for _, c := range strings.Split(letters, "") {
		reads(t, c, word(c, 0))
		reads(t, "a"+c, word("a"+c, 0))
		reads(t, c+"_0", word(c+"_0", 0))
	}
	for _, c := range strings.Split(digits+"_", "") {
		reads(t, "a"+c, word("a"+c, 0))
		reads(t, "a"+c+c+"z", word("a"+c+c+"z", 0))
	}
}

// P7.1, G1: a word has as many bytes as there are, and no others.
func TestWordEnds(t *testing.T) {
	reads(t, "a1 a_ a", word("a1", 0), word("a_", 3), word("a", 6))
	reads(t, "a\nb", word("a", 0), word("b", 2))
	reads(t, "a.b(c)", word("a", 0), sign(".", 1), word("b", 2), sign("(", 3), word("c", 4), sign(")", 5))
	reads(t, "a'b'c", word("a", 0), quoted("b", 1), word("c", 4))
	reads(t, "seqthen", word("seqthen", 0))
	reads(t, strings.Repeat("a", 16)+" "+strings.Repeat("b", 16), word(strings.Repeat("a", 16), 0), word(strings.Repeat("b", 16), 17))
	reads(t, strings.Repeat("a", 16)+"."+strings.Repeat("b", 16), word(strings.Repeat("a", 16), 0), sign(".", 16), word(strings.Repeat("b", 16), 17))
	refuses(t, "aB", api.ErrLex, 1)
	refuses(t, "Ab", api.ErrLex, 0)
	refuses(t, "aé", api.ErrLex, 1)
	refuses(t, "a-_", api.ErrLex, 2)
	refuses(t, strings.Repeat("a", 16)+"B", api.ErrLex, 16)
	refuses(t, strings.Repeat("a", 17)+"B", api.ErrLex, 0)
}

// P7.1, G1: a digit ahead of a word is a number of its own; a _ is nothing.
func TestAheadOfWord(t *testing.T) {
	reads(t, "1a", number("1", 0), word("a", 1))
	reads(t, "0a", number("0", 0), word("a", 1))
	reads(t, "12ab_3 4", number("12", 0), word("ab_3", 2), number("4", 7))
	refuses(t, "1_a", api.ErrLex, 1)
	refuses(t, "_a", api.ErrLex, 0)
	refuses(t, "_1", api.ErrLex, 0)
	refuses(t, "a _a", api.ErrLex, 2)
	refuses(t, "01a", api.ErrLex, 0)
}

// P7.1, G1: numbers up to 2^40, without a 0 ahead.
func TestNumber(t *testing.T) {
	for _, s := range []string{"0", "1", "9", "10", "100", "5", "1234567890", "999999999999", "100000000000", "1000000000000", "1099511627775", "1099511627776", "1099511627699", "1099499999999", "1089999999999", "2147483648", "4294967296"} {
		for _, ahead := range []string{"", " ", "a ", "0 ", "=", "''", "("} {
			_, e, _ := lex.Read(ahead + s)
			l, _, _ := lex.Read(ahead + s + " ")
			if e != api.OK || len(l) == 0 || l[len(l)-1] != number(s, len(ahead)) {
				t.Errorf("%q: %v %d", ahead+s, l, e)
			}
		}
	}
	for n := 1; n <= 30; n++ {
		one, nine, nought := "1"+strings.Repeat("0", n-1), strings.Repeat("9", n), strings.Repeat("0", n)
		if n <= 13 {
			reads(t, one, number(one, 0))
		} else {
			refuses(t, one, api.ErrLex, 0)
		}
		if n <= 12 {
			reads(t, nine, number(nine, 0))
		} else {
			refuses(t, nine, api.ErrLex, 0)
		}
		if n == 1 {
			reads(t, nought, number(nought, 0))
		} else {
			refuses(t, nought, api.ErrLex, 0)
		}
		refuses(t, nought+"1", api.ErrLex, 0)
	}
}

// P7.1, G1: a number has as many digits as there are, and no others.
func TestNumberEnds(t *testing.T) {
	reads(t, "1 2", number("1", 0), number("2", 2))
	reads(t, "0 0\n0", number("0", 0), number("0", 2), number("0", 4))
	reads(t, "1.5", number("1", 0), sign(".", 1), number("5", 2))
	reads(t, "0.0", number("0", 0), sign(".", 1), number("0", 2))
	reads(t, "-1", sign("-", 0), number("1", 1))
	reads(t, "+0", sign("+", 0), number("0", 1))
	reads(t, "1-0", number("1", 0), sign("-", 1), number("0", 2))
	reads(t, "1'1'1", number("1", 0), quoted("1", 1), number("1", 4))
	reads(t, "0x1", number("0", 0), word("x1", 1))
	reads(t, "1e9", number("1", 0), word("e9", 1))
	reads(t, "1099511627776 1099511627776", number("1099511627776", 0), number("1099511627776", 14))
	refuses(t, "1,000", api.ErrLex, 1)
	refuses(t, "1_000", api.ErrLex, 1)
	refuses(t, "1é", api.ErrLex, 1)
	refuses(t, "1２", api.ErrLex, 1)
}

// P7.1, G1: quoteds, of all bytes and all lengths that may be.
func TestQuoted(t *testing.T) {
	for n := range 100 {
		for _, c := range []string{"a", " ", "~", "0", "\"", "="} {
			s := strings.Repeat(c, n)
			if n <= 64 {
				reads(t, "'"+s+"'", quoted(s, 0))
				reads(t, "a\n'"+s+"' b", word("a", 0), quoted(s, 2), word("b", n+5))
			} else {
				refuses(t, "'"+s+"'", api.ErrLex, 0)
				refuses(t, "a '"+s+"' b", api.ErrLex, 2)
			}
		}
	}
	for x := range 256 {
		c := string([]byte{byte(x)})
		for _, s := range []string{c, c + "a", "a" + c, " " + c + " ", strings.Repeat("a", 63) + c, c + strings.Repeat("a", 63), strings.Repeat(c, 64)} {
			switch {
			case strings.Contains(quotables, c):
				reads(t, "'"+s+"'", quoted(s, 0))
				reads(t, "= '"+s+"'", sign("=", 0), quoted(s, 2))
			case c != "'":
				refuses(t, "'"+s+"'", api.ErrLex, 0)
				refuses(t, "= '"+s+"'", api.ErrLex, 2)
			}
		}
	}
}

// P7.1, G1: a quoted ends at the first quote behind its own, or not at all.
func TestQuotedEnds(t *testing.T) {
	reads(t, "''", quoted("", 0))
	reads(t, "''''", quoted("", 0), quoted("", 2))
	reads(t, "'a''b'", quoted("a", 0), quoted("b", 3))
	reads(t, "'a' 'b'", quoted("a", 0), quoted("b", 4))
	reads(t, "'seq a'", quoted("seq a", 0))
	reads(t, "'01'", quoted("01", 0))
	reads(t, "'\\'", quoted("\\", 0))
	reads(t, "'"+strings.Repeat("a", 64)+"'"+strings.Repeat("b", 16), quoted(strings.Repeat("a", 64), 0), word(strings.Repeat("b", 16), 66))
	for _, s := range []string{"'", "'''", "'a'b'", "'a' '", "'a''", "'\\'a'", "a'", "a 'b", "'" + strings.Repeat("a", 64) + "''"} {
		refuses(t, s, api.ErrLex, strings.LastIndex(strings.TrimSuffix(s, " "), "'"))
	}
	refuses(t, "'"+strings.Repeat("a", 64), api.ErrLex, 0)
	refuses(t, "'"+strings.Repeat("a", 511), api.ErrLex, 0)
	refuses(t, "'a\n'", api.ErrLex, 0)
	refuses(t, "a 'b\n' c", api.ErrLex, 2)
	refuses(t, "''"+"'"+strings.Repeat("a", 65)+"'", api.ErrLex, 2)
}

// P7.1, G1: each sign, alone and among others.
func TestSign(t *testing.T) {
	for _, s := range []string{"!=", "<=", ">=", "=", "<", ">", "+", "-", "(", ")", ".", "?"} {
		reads(t, s, sign(s, 0))
		reads(t, " "+s+"\n", sign(s, 1))
		reads(t, "a"+s+"b", word("a", 0), sign(s, 1), word("b", 1+len(s)))
		reads(t, "1"+s+"0", number("1", 0), sign(s, 1), number("0", 1+len(s)))
		reads(t, "''"+s+"''", quoted("", 0), sign(s, 2), quoted("", 2+len(s)))
		reads(t, s+" "+s, sign(s, 0), sign(s, 1+len(s)))
	}
}

// P7.1, G1: of signs without a blank between, those of two bytes are taken first, from the front.
func TestSignsTogether(t *testing.T) {
	for text, want := range map[string][]api.Token{
		"==":    {sign("=", 0), sign("=", 1)},
		"=!=":   {sign("=", 0), sign("!=", 1)},
		"!==":   {sign("!=", 0), sign("=", 2)},
		"!=!=":  {sign("!=", 0), sign("!=", 2)},
		"<==":   {sign("<=", 0), sign("=", 2)},
		"<<=":   {sign("<", 0), sign("<=", 1)},
		"<>":    {sign("<", 0), sign(">", 1)},
		"><":    {sign(">", 0), sign("<", 1)},
		"<>=":   {sign("<", 0), sign(">=", 1)},
		">=<=":  {sign(">=", 0), sign("<=", 2)},
		">>=":   {sign(">", 0), sign(">=", 1)},
		">==":   {sign(">=", 0), sign("=", 2)},
		"=>":    {sign("=", 0), sign(">", 1)},
		"=<":    {sign("=", 0), sign("<", 1)},
		"=<=":   {sign("=", 0), sign("<=", 1)},
		"< =":   {sign("<", 0), sign("=", 2)},
		"<\n=":  {sign("<", 0), sign("=", 2)},
		"> =":   {sign(">", 0), sign("=", 2)},
		"+=":    {sign("+", 0), sign("=", 1)},
		"-=":    {sign("-", 0), sign("=", 1)},
		"?=":    {sign("?", 0), sign("=", 1)},
		".=":    {sign(".", 0), sign("=", 1)},
		"(=":    {sign("(", 0), sign("=", 1)},
		")=":    {sign(")", 0), sign("=", 1)},
		"..":    {sign(".", 0), sign(".", 1)},
		"++--":  {sign("+", 0), sign("+", 1), sign("-", 2), sign("-", 3)},
		"(()?)": {sign("(", 0), sign("(", 1), sign(")", 2), sign("?", 3), sign(")", 4)},
	} {
		reads(t, text, want...)
	}
	for text, at := range map[string]int{"!": 0, "! =": 0, "!\n=": 0, "!!=": 0, "=!": 1, "!=!": 2, "<!": 1, "<=!": 2, "!<=": 0, "!>": 0, "a!": 1, "a!b": 1, "a ! b": 2, "a != !": 5, "=! =": 1} {
		refuses(t, text, api.ErrLex, at)
	}
}

// P7.1, G1: what each byte is, alone or behind others: a blank, a token, or nothing.
func TestBytes(t *testing.T) {
	for x := range 256 {
		c := string([]byte{byte(x)})
		for _, ahead := range aheads() {
			l, _, _ := lex.Read(ahead)
			at := len(ahead)
			switch {
			case c == " " || c == "\n":
				reads(t, ahead+c, l...)
				reads(t, ahead+c+c+"(", append(l, sign("(", at+2))...)
			case strings.Contains(letters, c):
				reads(t, ahead+c, append(l, word(c, at))...)
			case strings.Contains(digits, c):
				reads(t, ahead+c, append(l, number(c, at))...)
			case strings.Contains("<>+-().?", c) || c == "=" && !strings.HasSuffix(ahead, "<"):
				reads(t, ahead+c, append(l, sign(c, at))...)
			default:
				refuses(t, ahead+c, api.ErrLex, at)
				refuses(t, ahead+c+" a", api.ErrLex, at)
			}
		}
	}
}

// P7.1, G1: what is no token is told at its place, whatever is ahead and behind.
func TestWrong(t *testing.T) {
	for _, s := range wrongs() {
		for _, ahead := range aheads() {
			at := len(ahead)
			for _, behind := range []string{"", " ", "\n", " a", " ;", "\n'", " 01", "\n'\t'", "\tz", " " + strings.Repeat("a ", 40)} {
				if text := ahead + s + behind; len(text) <= 512 {
					refuses(t, text, api.ErrLex, at)
				} else {
					refuses(t, text, api.ErrTooMany, 0)
				}
			}
		}
	}
}

// P7.1, G1: there are 128 tokens at most.
func TestMany(t *testing.T) {
	for _, unit := range []string{"a ", "a\n", "1 ", "''", "'' ", "=", "= ", "!=", "(", ".", "'a'", "<= ", " ?", "\n0"} {
		one, _, _ := lex.Read(unit)
		var want []api.Token
		for i := range 128 {
			k := one[0]
			k.At += i * len(unit)
			want = append(want, k)
		}
		for _, n := range []int{1, 2, 127, 128} {
			for _, behind := range []string{"", " ", "\n\n"} {
				reads(t, strings.Repeat(unit, n)+behind, want[:n]...)
			}
		}
		for _, n := range []int{129, 130, 160} {
			for _, behind := range []string{"", " ", "\n\n", " a", "("} {
				refuses(t, strings.Repeat(unit, n)+behind, api.ErrTooMany, 128*len(unit)+one[0].At)
			}
		}
	}
}

// P7.1, G1: of two errors that is told which the text comes to first; of what is no token, where the 129th would be, that it is none.
func TestManyAndWrong(t *testing.T) {
	for _, s := range []string{";", "!", "01", "'", "'\t'", "_a", "A", "\t", "\xff", "1099511627777", strings.Repeat("a", 17), strings.Repeat("1", 14)} {
		for _, n := range []int{0, 1, 126, 127, 128} {
			refuses(t, strings.Repeat("a ", n)+s, api.ErrLex, 2*n)
			refuses(t, strings.Repeat("a ", n)+"  \n"+s, api.ErrLex, 2*n+3)
			refuses(t, strings.Repeat("a ", n)+s+" "+strings.Repeat("= ", 100), api.ErrLex, 2*n)
			refuses(t, strings.Repeat("(", n)+s+" "+strings.Repeat("= ", 100), api.ErrLex, n)
		}
		for _, n := range []int{129, 130, 200} {
			refuses(t, strings.Repeat("a ", n)+s, api.ErrTooMany, 256)
			refuses(t, strings.Repeat("(", n)+s, api.ErrTooMany, 128)
			refuses(t, strings.Repeat("(", 128)+" \n"+strings.Repeat(")", n-128)+s, api.ErrTooMany, 130)
		}
	}
	// A text that is too long is told ahead of both.
	refuses(t, ";"+strings.Repeat("a ", 256), api.ErrTooMany, 0)
	refuses(t, strings.Repeat("a ", 256)+";", api.ErrTooMany, 0)
	refuses(t, strings.Repeat("a ", 128)+";"+strings.Repeat(" ", 256), api.ErrTooMany, 0)
}

// keys are the words that are kept, as G2 lists them.
const keys = "seq then not or where and within by pick any next strict true false count sum min max"

// P7.1, G2: these words are kept; each is a word as others are.
func TestKey(t *testing.T) {
	for _, s := range strings.Fields(keys) {
		if !lex.Key(s) {
			t.Errorf("%q is kept", s)
		}
		reads(t, s, word(s, 0))
		reads(t, s+"."+s, word(s, 0), sign(".", len(s)), word(s, len(s)+1))
	}
	if n := len(strings.Fields(keys)); n != 18 {
		t.Error(n)
	}
}

// P7.1, G2: no others are, not those that are nearly one.
func TestNoKey(t *testing.T) {
	kept := strings.Fields(keys)
	none := func(s string) {
		if lex.Key(s) != slices.Contains(kept, s) {
			t.Errorf("%.99q", s)
		}
	}
	for _, s := range kept {
		for i := range len(s) + 1 {
			for x := range 256 {
				c := string([]byte{byte(x)})
				none(s[:i] + c + s[i:])
				if i < len(s) {
					none(s[:i] + c + s[i+1:])
				}
			}
			none(s[:i])
			none(s[i:])
			none(s[:i] + " " + s[i:])
			if i < len(s) {
				none(s[:i] + s[i+1:])
			}
		}
		for _, other := range kept {
			none(s + other)
			none(s + " " + other)
		}
		none(strings.ToUpper(s))
		none("'" + s + "'")
		none(s + s)
	}
	for _, s := range []string{"", " ", "a", "x", "_", "0", "=", keys, "strictly", "all", "one", "plus", "opt", "avg", "last", "first", "in", "is", "from", "select", strings.Repeat("seq", 1<<16)} {
		none(s)
	}
}
