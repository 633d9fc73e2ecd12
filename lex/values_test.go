package lex_test

import (
	"math/rand/v2"
	"slices"
	"strings"
	"testing"

	"freshet/api"
	"freshet/lex"
)

const least = -1 << 63

func word(s string, at int) api.Token { return api.Token{Kind: api.TWord, S: s, At: at} }

func name(s string, at int) api.Token { return api.Token{Kind: api.TName, S: s, At: at} }

func symbol(s string, at int) api.Token { return api.Token{Kind: api.TSymbol, S: s, At: at} }

func value(kind int, n int64, s string, at int) api.Token {
	return api.Token{Kind: api.TValue, Lit: api.Datum{Kind: kind, I: n, S: s}, At: at}
}

func integer(n int64, at int) api.Token { return value(api.Int, n, "", at) }

func decimal(n int64, at int) api.Token { return value(api.Dec, n, "", at) }

func text(s string, at int) api.Token { return value(api.Text, 0, s, at) }

func octets(s string, at int) api.Token { return value(api.Bytes, 0, s, at) }

// reads asks that a text's tokens are these, and the end behind them.
func reads(t *testing.T, s string, want ...api.Token) {
	t.Helper()
	want = append(slices.Clone(want), api.Token{Kind: api.TEnd, At: len(s)})
	got, bad, at := lex.Lex(s)
	if bad != api.OK || at != 0 || !slices.Equal(got, want) {
		t.Errorf("%.100q: %v, error %d at %d; want %v", s, got, bad, at, want)
	}
}

// refuses asks that a text has this error, and no tokens.
func refuses(t *testing.T, s string, want api.Errno, place int) {
	t.Helper()
	got, bad, at := lex.Lex(s)
	if bad != want || at != place || len(got) != 0 {
		t.Errorf("%.100q: %d tokens, error %d at %d; want error %d at %d", s, len(got), bad, at, want, place)
	}
}

// allWords are the words of the language.
func allWords() []string {
	return strings.Split("ALL, AND, AS, ASC, BOOL, BY, BYTES, CASE, CREATE, DEC, DELETE, DESC, DISTINCT, DROP, ELSE, END, EXCEPT, EXISTS, FALSE, FROM, GROUP, HAVING, IN, INDEX, INNER, INSERT, INT, INTERSECT, INTO, IS, JOIN, LATERAL, LEFT, LIMIT, NOT, NULL, ON, OR, ORDER, SELECT, SUBSCRIBE, TABLE, TEXT, THEN, TRUE, UNION, VALUES, VIEW, WHEN, WHERE", ", ")
}

// lot draws numbers, the same ones at each run.
func lot() *rand.Rand { return rand.New(rand.NewPCG(4, 1)) }

// someText is one of n pieces.
func someText(by *rand.Rand, pieces []string, n int) string {
	var s strings.Builder
	for range n {
		s.WriteString(pieces[by.IntN(len(pieces))])
	}
	return s.String()
}

// pieces are what texts are made of, right and wrong ones.
func pieces() []string {
	return []string{" ", "\t", "\n", "\r", "--", "-", "'", "''", "x'", "X'", "0", "7", "00", "af", "F", "x", "_", "ß", "\xff", "\xc3", "\ufffd", "\x00", "!", "\"", "\v", "<", ">", "=", "(", ")", ",", ".", ";", "*", "+", "/", "select", "From", "1.5", "9223372036854775808"}
}
