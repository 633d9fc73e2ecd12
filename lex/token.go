package lex

import (
	"strconv"
	"strings"
	"unicode/utf8"

	"freshet/api"
)

// first is the token with which a text, that is not empty, begins, and how many bytes it has; or the error, and how far behind the beginning its place is. What it tells is a copy: a piece of the text would keep all of the text.
func first(s string, known map[string]struct{}) (token api.Token, size int, bad api.Errno) {
	r := rune(s[0])
	switch {
	case (r == 'x' || r == 'X') && strings.HasPrefix(s[1:], "'"):
		return octets(s)
	case letter(r):
		return name(s, known)
	case digit(r):
		return number(s)
	case r == '\'':
		return text(s)
	}
	return symbol(s)
}

// name reads a name, or a word of the language.
func name(s string, known map[string]struct{}) (token api.Token, size int, bad api.Errno) {
	size = run(s, inName)
	if size > api.MaxName {
		return token, 0, api.ErrLong
	}
	capitals := strings.ToUpper(s[:size])
	if _, is := known[capitals]; is {
		return api.Token{Kind: api.TWord, S: strings.Clone(capitals)}, size, api.OK
	}
	return api.Token{Kind: api.TName, S: strings.Clone(strings.ToLower(s[:size]))}, size, api.OK
}

// number reads an INT or a DEC.
func number(s string) (token api.Token, size int, bad api.Errno) {
	const noughts = "0000" // of api.Scale
	size = run(s, digit)
	lit, digits := api.Datum{Kind: api.Int}, s[:size]
	if behind := fraction(s[size:]); behind > len(noughts) {
		return token, 0, api.ErrDigit
	} else if behind > 0 {
		lit.Kind = api.Dec
		size += 1 + behind
		digits += s[size-behind:size] + noughts[behind:]
	}
	amount, err := strconv.ParseUint(digits, 10, 64)
	if err != nil || amount > 1<<63 || run(s[size:], letter) > 0 {
		return token, 0, api.ErrDigit
	}
	// An amount of 2^63 wraps round to -2^63, as it shall.
	lit.I = int64(amount)
	return api.Token{Kind: api.TValue, Lit: lit}, size, api.OK
}

// fraction is how many digits stand behind a point at the beginning; 0, if there is no point.
func fraction(s string) int {
	digits, pointed := strings.CutPrefix(s, ".")
	if !pointed {
		return 0
	}
	return run(digits, digit)
}

// text reads a TEXT.
func text(s string) (token api.Token, size int, bad api.Errno) {
	size, bad = textSize(s)
	if bad != api.OK {
		return token, size, bad
	}
	value := strings.ReplaceAll(s[1:size-1], "''", "'")
	if len(value) > api.MaxText {
		return token, 0, api.ErrLong
	}
	return literal(api.Text, strings.Clone(value)), size, api.OK
}

// textSize is how many bytes a TEXT has, from its first ' to its last one; or the error, and how far behind the beginning its place is.
func textSize(s string) (size int, bad api.Errno) {
	ended := false // so it is, if the ' ahead is not the first one of two
	for at, r := range s[1:] {
		switch {
		case r == '\'':
			ended = !ended
		case ended:
			return 1 + at, api.OK
		case r == utf8.RuneError && !strings.HasPrefix(s[1+at:], string(utf8.RuneError)):
			return 1 + at, api.ErrRune
		}
	}
	if !ended {
		return 0, api.ErrOpen
	}
	return len(s), api.OK
}

// octets reads BYTES.
func octets(s string) (token api.Token, size int, bad api.Errno) {
	digits := s[len("x'"):]
	n := run(digits, digitOfSixteen)
	switch {
	case n == len(digits):
		return token, 0, api.ErrOpen
	case digits[n] != '\'' || n%2 != 0:
		return token, 0, api.ErrDigit
	case n/2 > api.MaxText:
		return token, 0, api.ErrLong
	}
	var value strings.Builder
	for at := 0; at < n; at += 2 {
		b, _ := strconv.ParseUint(digits[at:at+2], 16, 8)
		value.WriteByte(byte(b))
	}
	return literal(api.Bytes, value.String()), len("x''") + n, api.OK
}

func literal(kind int, s string) api.Token {
	return api.Token{Kind: api.TValue, Lit: api.Datum{Kind: kind, S: s}}
}

// symbol reads a symbol; ErrRune, if none begins.
func symbol(s string) (token api.Token, size int, bad api.Errno) {
	for _, one := range [...]string{"<=", ">=", "<>", "(", ")", ",", ".", ";", "*", "+", "-", "/", "=", "<", ">"} {
		if strings.HasPrefix(s, one) {
			return api.Token{Kind: api.TSymbol, S: strings.Clone(one)}, len(one), api.OK
		}
	}
	return token, 0, api.ErrRune
}
