package lex_test

import (
	"slices"
	"strings"
	"testing"

	"freshet/api"
	"freshet/datum"
	"freshet/lex"
)

// printed is a text token by token.
func printed(l []api.Token) string {
	var parts []string
	for _, one := range l {
		if one.Kind == api.TValue {
			parts = append(parts, datum.Print(one.Lit))
		} else {
			parts = append(parts, one.S)
		}
	}
	return strings.Join(parts, " ")
}

// placeless are tokens but for their places.
func placeless(l []api.Token) []api.Token {
	l = slices.Clone(l)
	for i := range l {
		l[i].At = 0
	}
	return l
}

// P4.3: what is printed token by token has the same tokens, but for places.
func TestPrintedAgain(t *testing.T) {
	by, found := lot(), 0
	for i := range 60000 {
		s := someText(by, pieces(), i%20)
		l, bad, _ := lex.Lex(s)
		if bad != api.OK || slices.ContainsFunc(l, func(one api.Token) bool { return one.Lit.I < 0 }) {
			continue
		}
		found++
		again, bad, _ := lex.Lex(printed(l))
		if bad != api.OK || !slices.Equal(placeless(again), placeless(l)) {
			t.Fatalf("%q: %v; printed as %q: %v, error %d", s, l, printed(l), again, bad)
		}
	}
	if found < 3000 {
		t.Fatalf("%d texts with tokens alone", found)
	}
}

// P4.3: the same of all kinds of tokens, beside one another.
func TestEveryKindAgain(t *testing.T) {
	l := []string{"SELECT", "not", "a", "_", "x", "a1", "_0", "x00", "select1", "1", "0", "9223372036854775807", "0.0001", "12.5", "''", "'it''s ß -- \n'", "x''", "x'0aff'", "(", ")", ",", ".", ";", "*", "+", "-", "/", "=", "<", ">", "<=", ">=", "<>"}
	for _, a := range l {
		for _, b := range l {
			want, bad, _ := lex.Lex(a + " " + b)
			if bad != api.OK || len(want) != 3 {
				t.Fatalf("%s %s: %v, error %d", a, b, want, bad)
			}
			got, bad, _ := lex.Lex(printed(want))
			if bad != api.OK || !slices.Equal(placeless(got), placeless(want)) {
				t.Fatalf("%s %s: %v, error %d", a, b, got, bad)
			}
		}
	}
}

// left asks that what a text has ahead of its error are tokens: those that the text has, if it ends there.
func left(t *testing.T, s string, bad api.Errno, at int) {
	if at < 0 || at > len(s) {
		t.Fatalf("%q: error %d at %d", s, bad, at)
	}
	_, before, place := lex.Lex(s[:at])
	// Of a text alone ErrRune stands further right than the text itself.
	if before != api.OK && (bad != api.ErrRune || before != api.ErrOpen || place >= at) {
		t.Fatalf("%q: error %d at %d, but %d at %d ahead of it", s, bad, at, before, place)
	}
}

// P4.2, R1: of any text at all: its tokens rise, and each begins where it stands; an error stands behind what is right.
func TestAnyText(t *testing.T) {
	by := lot()
	for i := range 40000 {
		s := someText(by, pieces(), i%40)
		l, bad, at := lex.Lex(s)
		if bad != api.OK {
			left(t, s, bad, at)
			continue
		}
		for j, one := range l[:len(l)-1] {
			alone, bad, _ := lex.Lex(s[one.At:l[j+1].At])
			if bad != api.OK || len(alone) != 2 || alone[0].At != 0 || placeless(alone)[0] != placeless(l)[j] {
				t.Fatalf("%q: token %d is %v, alone %v, error %d", s, j, one, alone, bad)
			}
		}
		if end := l[len(l)-1]; end != (api.Token{Kind: api.TEnd, At: len(s)}) {
			t.Fatalf("%q: the end is %v", s, end)
		}
	}
}
