package lex_test

import (
	"slices"
	"strings"
	"testing"

	"freshet/api"
	"freshet/lex"
)

// P4.2: ErrRune at every place where nothing else begins.
func TestWrongRunes(t *testing.T) {
	const right = "\t\n\r '()*+,-./;<=>_0123456789abcdefghijklmnopqrstuvwxyzABCDEFGHIJKLMNOPQRSTUVWXYZ"
	for b := range 256 {
		s := string([]byte{byte(b)})
		if b >= 0x80 || !strings.Contains(right, s) {
			refuses(t, s, api.ErrRune, 0)
			refuses(t, "a "+s, api.ErrRune, 2)
			refuses(t, "a"+s+"1a", api.ErrRune, 1)
		} else if _, bad, _ := lex.Lex(s); bad != api.OK && s != "'" {
			t.Errorf("%q: error %d", s, bad)
		}
	}
	// K is the Kelvin sign, whose small letter is k; İ's is i and a point; ſ's capital is S.
	for _, s := range []string{"ß", "é", "日", "\u212a", "İ", "ſ", "\u00a0", "\u2028", "\ufeff", "\ufffd", "１", "²", "\xff", "\xc3"} {
		refuses(t, s, api.ErrRune, 0)
		refuses(t, "a"+s, api.ErrRune, 1)
		refuses(t, "1"+s, api.ErrRune, 1)
		refuses(t, "--\n"+s, api.ErrRune, 3)
	}
}

// P4.2: the first error from the left is told.
func TestFirstError(t *testing.T) {
	long := strings.Repeat("a", api.MaxName+1)
	for _, x := range []struct {
		s     string
		want  api.Errno
		place int
	}{
		{"! 1a", api.ErrRune, 0}, {"1a !", api.ErrDigit, 0}, {"a " + long + " !", api.ErrLong, 2}, {"a ! " + long, api.ErrRune, 2}, {"b 'a! " + long, api.ErrOpen, 2}, {"x'0g' '", api.ErrDigit, 0}, {"'a' ' x'0g'!", api.ErrDigit, 8}, {"'a' ' x' 0'g! \xff", api.ErrRune, 14},
	} {
		refuses(t, x.s, x.want, x.place)
	}
}

// P4.2: a text of MaxSql bytes may be; a longer one is ErrLong at 0, whatever else is wrong.
func TestLongest(t *testing.T) {
	for _, s := range []string{" ", "--", "!", "1a", "\xff", "(", "'", "x'"} {
		long := strings.Repeat(s, api.MaxSql+1)
		refuses(t, long[:api.MaxSql+1], api.ErrLong, 0)
		refuses(t, long, api.ErrLong, 0)
	}
	reads(t, strings.Repeat(" ", api.MaxSql))
	reads(t, strings.Repeat(" ", api.MaxSql-1)+"a", name("a", api.MaxSql-1))
}

// symbols are n of them, with their places.
func symbols(n int) (string, []api.Token) {
	var l []api.Token
	for i := range n {
		l = append(l, symbol("(", 2*i))
	}
	return strings.Repeat("( ", n), l
}

// P4.2: MaxTokens tokens may be, the end not counted; the one behind them is ErrLong at its place, whatever is wrong with it.
func TestManyTokens(t *testing.T) {
	s, l := symbols(api.MaxTokens)
	reads(t, s, l...)
	reads(t, strings.TrimSpace(s), l...)
	reads(t, s+"-- ( (", l...)
	for _, one := range []string{"(", "a", "1", "''", "x''", "1a", "'", "'\xff", "x'0", "x'g'", strings.Repeat("a", api.MaxName+1), "9223372036854775809", "'" + strings.Repeat("a", api.MaxText+1) + "'", "!", "\xff", "ß"} {
		refuses(t, s+one, api.ErrLong, 2*api.MaxTokens)
		refuses(t, s+"\n--\n"+one+" 1a", api.ErrLong, 2*api.MaxTokens+4)
	}
	few, fewer := symbols(api.MaxTokens - 1)
	reads(t, few+"a", append(slices.Clone(fewer), name("a", 2*api.MaxTokens-2))...)
	refuses(t, few+"1a", api.ErrDigit, 2*api.MaxTokens-2)
	refuses(t, few+"!", api.ErrRune, 2*api.MaxTokens-2)
	refuses(t, strings.Repeat("a(", 600)+"'", api.ErrLong, 1000)
}
