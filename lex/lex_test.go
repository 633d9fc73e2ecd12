package lex_test

import (
	"strings"
	"testing"

	"freshet/api"
	"freshet/lex"
)

// P4.1: the words of the language, as they are written, and nothing else.
func TestWord(t *testing.T) {
	for _, w := range allWords() {
		if !lex.Word(w) {
			t.Errorf("%s is no word", w)
		}
		for _, s := range []string{strings.ToLower(w), w[:1] + strings.ToLower(w[1:]), strings.ToLower(w[:1]) + w[1:], w + " ", " " + w, w + "_", "_" + w, w + "\x00", w + "Q", w[:len(w)-1] + "Q"} {
			if lex.Word(s) {
				t.Errorf("%q is a word", s)
			}
		}
	}
	for _, s := range []string{"", " ", "A", "I", "ALL AND", "SELECTS", "SELEC", "COUNT", "SUM", "MIN", "MAX", "COALESCE", "LENGTH", "ABS", "RIGHT", "OUTER", "FULL", "CROSS", "SET", "UPDATE", "PRIMARY", "WITH", "OFFSET", "ßELECT", "\xff", "'", "TRU\u0045\u0301"} {
		if lex.Word(s) {
			t.Errorf("%q is a word", s)
		}
	}
}

// P4.2: the examples.
func TestExamples(t *testing.T) {
	reads(t, "SELECT a.b", word("SELECT", 0), name("a", 7), symbol(".", 8), name("b", 9))
	reads(t, "1.5 1. 'it''s' X'0aFF' -- x", decimal(15000, 0), integer(1, 4), symbol(".", 5), text("it's", 7), octets("\x0a\xff", 15))
	reads(t, "<=>9223372036854775808", symbol("<=", 0), symbol(">", 2), integer(least, 3))
	refuses(t, "9223372036854775809", api.ErrDigit, 0)
	refuses(t, "1.23456", api.ErrDigit, 0)
	refuses(t, "1a", api.ErrDigit, 0)
	refuses(t, "'a", api.ErrOpen, 0)
	refuses(t, "x'1'", api.ErrDigit, 0)
	refuses(t, "ß", api.ErrRune, 0)
	refuses(t, "a\xff", api.ErrRune, 1)
}

// P4.2: blanks and comments are left out; the end stands at the text's end.
func TestBlanks(t *testing.T) {
	for _, s := range []string{"", " ", "\n", " \t\r\n ", "--", "-- ", "---", "--'", "--\n--", " -- a\n\r--b\n\n", "--\xff\xc3 ß \x00 'x", "--\r a b \r"} {
		reads(t, s)
	}
	reads(t, " a", name("a", 1))
	reads(t, "\r\n\ta \t", name("a", 3))
	reads(t, "--\xff'\na--", name("a", 5))
	reads(t, "a--b\nc--", name("a", 0), name("c", 5))
	reads(t, "a--b\rc\n\nd", name("a", 0), name("d", 8))
	reads(t, "a -- b -- c\n-- d\n  - --\n -", name("a", 0), symbol("-", 19), symbol("-", 25))
	reads(t, "1--2\n-3", integer(1, 0), symbol("-", 5), integer(3, 6))
	reads(t, "- - -", symbol("-", 0), symbol("-", 2), symbol("-", 4))
	reads(t, "a---b", name("a", 0))
	reads(t, "'a' --\n'b'", text("a", 0), text("b", 7))
	reads(t, "< =", symbol("<", 0), symbol("=", 2))
	reads(t, "1 .5", integer(1, 0), symbol(".", 2), integer(5, 3))
	reads(t, "1. 5", integer(1, 0), symbol(".", 1), integer(5, 3))
	reads(t, "x '00'", name("x", 0), text("00", 2))
}

// P4.2: names are letters, _ and, behind the first one of these, digits; they are told in small letters.
func TestNames(t *testing.T) {
	reads(t, "abc ABC aBc _ __ _a a_ Z z", name("abc", 0), name("abc", 4), name("abc", 8), name("_", 12), name("__", 14), name("_a", 17), name("a_", 20), name("z", 23), name("z", 25))
	reads(t, "a1 b_2.c", name("a1", 0), name("b_2", 3), symbol(".", 6), name("c", 7))
	for _, first := range "aAxXzZ_" {
		for _, more := range []string{"0", "9", "1_", "2b3", "0123456789", "__7", "Q0", "007x"} {
			s := string(first) + more
			reads(t, s, name(strings.ToLower(s), 0))
			reads(t, "1,"+s+"=2", integer(1, 0), symbol(",", 1), name(strings.ToLower(s), 2), symbol("=", 2+len(s)), integer(2, 3+len(s)))
		}
	}
}

// P4.2: a name ends where no letter, no _ and no digit stands; a digit ahead of a name begins a number.
func TestNamesEnd(t *testing.T) {
	reads(t, "a1.5", name("a1", 0), symbol(".", 2), integer(5, 3))
	reads(t, "a1.b2", name("a1", 0), symbol(".", 2), name("b2", 3))
	reads(t, "a1-1 a 1", name("a1", 0), symbol("-", 2), integer(1, 3), name("a", 5), integer(1, 7))
	reads(t, "a1--1\n2", name("a1", 0), integer(2, 6))
	reads(t, "a1\n1", name("a1", 0), integer(1, 3))
	reads(t, "a1'1'", name("a1", 0), text("1", 2))
	refuses(t, "a1.5b", api.ErrDigit, 3)
	refuses(t, "a1 1a1", api.ErrDigit, 3)
	for _, s := range []string{"\xff", "ß", "!", "１", "²", "\u212a"} {
		refuses(t, "a1"+s, api.ErrRune, 2)
	}
}

// P4.2: every word, however it is written; what only begins like one is a name.
func TestWords(t *testing.T) {
	for _, w := range allWords() {
		small := strings.ToLower(w)
		reads(t, w+" "+small+" "+w[:1]+small[1:], word(w, 0), word(w, len(w)+1), word(w, 2*len(w)+2))
		reads(t, w+"_ _"+w+" Q"+w+w, name(small+"_", 0), name("_"+small, len(w)+2), name("q"+small+small, 2*len(w)+4))
		reads(t, w+"1 "+small+"0a _1"+w, name(small+"1", 0), name(small+"0a", len(w)+2), name("_1"+small, 2*len(w)+5))
		reads(t, w+" 1", word(w, 0), integer(1, len(w)+1))
	}
	reads(t, "not_null ISNULL sum count coalesce", name("not_null", 0), name("isnull", 9), name("sum", 16), name("count", 20), name("coalesce", 26))
}

// P4.2: a name of MaxName bytes is one, a longer one is not.
func TestLongNames(t *testing.T) {
	long := strings.Repeat("aB_z", api.MaxName/4)
	reads(t, " "+long+".", name(strings.ToLower(long), 1), symbol(".", 21))
	refuses(t, " "+long+"a", api.ErrLong, 1)
	refuses(t, "a, "+long+"_ 1a", api.ErrLong, 3)
	digits := "A" + strings.Repeat("7", api.MaxName-1)
	reads(t, " "+digits+"=", name(strings.ToLower(digits), 1), symbol("=", 21))
	refuses(t, " "+digits+"7", api.ErrLong, 1)
	refuses(t, " "+digits+"_", api.ErrLong, 1)
	refuses(t, " "+long+"1", api.ErrLong, 1)
	refuses(t, "a1, "+long+"1 1a", api.ErrLong, 4)
	refuses(t, "_"+strings.Repeat("0", api.MaxSql-1), api.ErrLong, 0)
	refuses(t, strings.Repeat("x", api.MaxSql), api.ErrLong, 0)
	refuses(t, strings.Repeat("x", 21)+"\xff", api.ErrLong, 0)
	reads(t, strings.Repeat("x", 20)+"'a'", name(strings.Repeat("x", 20), 0), text("a", 20))
}

// P4.2: every symbol, the longest one that begins.
func TestSymbols(t *testing.T) {
	for _, s := range []string{"<=", ">=", "<>", "(", ")", ",", ".", ";", "*", "+", "-", "/", "=", "<", ">"} {
		reads(t, s, symbol(s, 0))
		reads(t, "a"+s+"b", name("a", 0), symbol(s, 1), name("b", 1+len(s)))
		refuses(t, s+"!", api.ErrRune, len(s))
	}
}

// P4.2: symbols directly behind one another.
func TestSymbolsTogether(t *testing.T) {
	reads(t, "<<=>>=<>=", symbol("<", 0), symbol("<=", 1), symbol(">", 3), symbol(">=", 4), symbol("<>", 6), symbol("=", 8))
	reads(t, "==><=<", symbol("=", 0), symbol("=", 1), symbol(">", 2), symbol("<=", 3), symbol("<", 5))
	reads(t, "><", symbol(">", 0), symbol("<", 1))
	reads(t, "..,*/+-", symbol(".", 0), symbol(".", 1), symbol(",", 2), symbol("*", 3), symbol("/", 4), symbol("+", 5), symbol("-", 6))
	reads(t, "(*)", symbol("(", 0), symbol("*", 1), symbol(")", 2))
}
