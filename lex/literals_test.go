package lex_test

import (
	"strings"
	"testing"

	"freshet/api"
)

// P4.2: numbers without a point are INTs, noughts ahead or not, up to an amount of 2^63.
func TestIntegers(t *testing.T) {
	for _, x := range []struct {
		s    string
		want int64
	}{
		{"0", 0}, {"00", 0}, {"7", 7}, {"007", 7}, {"10", 10}, {"9223372036854775807", 1<<63 - 1}, {"9223372036854775808", least}, {"0009223372036854775808", least},
		{strings.Repeat("0", api.MaxSql), 0}, {strings.Repeat("0", api.MaxSql-2) + "12", 12}, {strings.Repeat("0", api.MaxSql-19) + "9223372036854775808", least},
	} {
		reads(t, x.s, integer(x.want, 0))
	}
	for _, s := range []string{"9223372036854775809", "9223372036854775810", "009223372036854775809", "18446744073709551615", "18446744073709551616", "18446744073709551617", "36893488147419103232", "10000000000000000000000000000000", strings.Repeat("9", api.MaxSql)} {
		refuses(t, s, api.ErrDigit, 0)
	}
	refuses(t, "1 <99999999999999999999 'a", api.ErrDigit, 3)
	reads(t, "1 2(3", integer(1, 0), integer(2, 2), symbol("(", 3), integer(3, 4))
}

// P4.2: numbers with a point, and a digit behind it, are DECs.
func TestDecimals(t *testing.T) {
	for _, x := range []struct {
		s    string
		want int64
	}{
		{"0.0", 0}, {"0.0000", 0}, {"1.0", 10000}, {"1.5", 15000}, {"1.05", 10500}, {"1.005", 10050}, {"1.0005", 10005}, {"0.0001", 1}, {"12.3456", 123456}, {"0012.3", 123000}, {"00.9999", 9999},
		{"922337203685477.5807", 1<<63 - 1}, {"922337203685477.5808", least}, {"922337203685477.5", 9223372036854775000}, {"000922337203685477.5808", least}, {"922337203685477.580", 9223372036854775800},
		{strings.Repeat("0", api.MaxSql-3) + "2.5", 25000},
	} {
		reads(t, x.s, decimal(x.want, 0))
	}
	for _, s := range []string{"922337203685477.5809", "922337203685477.581", "922337203685477.6", "922337203685478.0", "9223372036854775807.0", "9223372036854775808.0", "1844674407370955.1616", "1844674407370955.1617", "18446744073709551616.0", strings.Repeat("9", 3000) + ".5"} {
		refuses(t, s, api.ErrDigit, 0)
	}
	for _, s := range []string{"1.00000", "1.12345", "0.00000", "1.123456789", "1." + strings.Repeat("0", api.MaxSql-2)} {
		refuses(t, s, api.ErrDigit, 0)
	}
	refuses(t, "  1.50000", api.ErrDigit, 2)
}

// P4.2: a point without a digit behind it, or ahead of it, is a symbol.
func TestPoints(t *testing.T) {
	reads(t, "1.", integer(1, 0), symbol(".", 1))
	reads(t, "1..5", integer(1, 0), symbol(".", 1), symbol(".", 2), integer(5, 3))
	reads(t, "1.a", integer(1, 0), symbol(".", 1), name("a", 2))
	reads(t, "1.'a'", integer(1, 0), symbol(".", 1), text("a", 2))
	reads(t, ".5", symbol(".", 0), integer(5, 1))
	reads(t, "1.5.25", decimal(15000, 0), symbol(".", 3), integer(25, 4))
	reads(t, "1.5.", decimal(15000, 0), symbol(".", 3))
	reads(t, "a.1", name("a", 0), symbol(".", 1), integer(1, 2))
	reads(t, "1.5-2", decimal(15000, 0), symbol("-", 3), integer(2, 4))
	reads(t, "-1.5", symbol("-", 0), decimal(15000, 1))
}

// P4.2: no letter and no _ stands directly behind a number; other things may.
func TestBehindNumbers(t *testing.T) {
	for _, s := range []string{"1a", "1A", "1z", "1Z", "1_", "1x'00'", "1X'00'", "0b", "12e", "1.5a", "1.5_", "1.2345z", "1select", "1x", "1a\xff", "1_ß"} {
		refuses(t, s, api.ErrDigit, 0)
		refuses(t, "b - "+s, api.ErrDigit, 4)
	}
	reads(t, "1'a'", integer(1, 0), text("a", 1))
	reads(t, "1.5'a'", decimal(15000, 0), text("a", 3))
	reads(t, "1--a", integer(1, 0))
	reads(t, "1\n_", integer(1, 0), name("_", 2))
	for _, s := range []string{"1ß", "1\xff", "1!", "1@", "1[", "1`", "1{", "1^"} {
		refuses(t, s, api.ErrRune, 1)
	}
}

// P4.2: texts of any runes; of two ' directly behind each other both belong to it, as one.
func TestTexts(t *testing.T) {
	for _, x := range []struct{ s, want string }{
		{"''", ""}, {"'a'", "a"}, {"''''", "'"}, {"''''''", "''"}, {"'a''b'", "a'b"}, {"'''a'", "'a"}, {"'a'''", "a'"}, {"'''a'''", "'a'"}, {"''' '", "' "},
		{"' --x\n\r\t'", " --x\n\r\t"}, {"'SELECT'", "SELECT"}, {"'\x00'", "\x00"}, {"'ß日\U0010ffff'", "ß日\U0010ffff"}, {"'\ufffd'", "\ufffd"}, {"'a\ufffd''\ufffd'", "a\ufffd'\ufffd"}, {"'\"`\\''\\'", "\"`\\'\\"}, {"'x''00'", "x'00"}, {"'\ufeff'", "\ufeff"},
	} {
		reads(t, x.s, text(x.want, 0))
		reads(t, " "+x.s+" 'b'--'", text(x.want, 1), text("b", len(x.s)+2))
	}
	reads(t, "'a' 'b'", text("a", 0), text("b", 4))
	reads(t, "'a'b'c'", text("a", 0), name("b", 3), text("c", 4))
	reads(t, "'a'1", text("a", 0), integer(1, 3))
	reads(t, "'a'x'00'", text("a", 0), octets("\x00", 3))
}

// P4.2: of a text ErrRune at the first byte that is no rune's, and ErrOpen at its place, if it has no end: what stands further left.
func TestWrongTexts(t *testing.T) {
	for _, s := range []string{"'", "'a", "'''", "'a''", "'''''", "'a''b", "'ß", "' --\n", "'\ufffd", "'\x00"} {
		refuses(t, s, api.ErrOpen, 0)
		refuses(t, "a  "+s, api.ErrOpen, 3)
	}
	for _, x := range []struct {
		s     string
		place int
	}{
		{"'\xff", 1}, {"'\xff'", 1}, {"'a\xc3'", 2}, {"'ß\xc3ß\xff'", 3}, {"'\xed\xa0\x80'", 1}, {"'\xc0\x80'", 1}, {"'\xf4\x90\x80\x80'", 1}, {"'ab\x80", 3}, {"'\xef\xbf'", 1}, {"'\xef\xbf", 1}, {"'\ufffd\xef\xbf'", 4}, {"''''\xff", 4}, {"'''\xff'", 3}, {"'a'\xff", 3}, {"''\xff'", 2}, {"'a''\xff", 4},
	} {
		refuses(t, x.s, api.ErrRune, x.place)
		refuses(t, "a, "+x.s, api.ErrRune, 3+x.place)
	}
}

// P4.2: a text of MaxText bytes is one; a longer one is ErrLong, unless it is wrong in another way.
func TestLongTexts(t *testing.T) {
	for _, s := range []string{strings.Repeat("a", api.MaxText), strings.Repeat("ß", api.MaxText/2), strings.Repeat("''", api.MaxText), strings.Repeat("\ufffd", api.MaxText/3) + "''"} {
		want := strings.ReplaceAll(s, "''", "'")
		reads(t, "1,'"+s+"'", integer(1, 0), symbol(",", 1), text(want, 2))
		for _, more := range []string{"a", "''", "\x00", "ß"} {
			refuses(t, "1,'"+s+more+"'", api.ErrLong, 2)
			refuses(t, "1,'"+s+more+"' 1a", api.ErrLong, 2)
			refuses(t, "1,'"+s+more, api.ErrOpen, 2)
			refuses(t, "1,'"+s+more+"\xff'", api.ErrRune, 3+len(s)+len(more))
			refuses(t, "1,'"+s+more+"\xff", api.ErrRune, 3+len(s)+len(more))
		}
	}
	refuses(t, "'"+strings.Repeat("''", 1999)+"'", api.ErrLong, 0)
}

// P4.2: bytes, two digits of sixteen each.
func TestBytes(t *testing.T) {
	for _, x := range []struct{ s, want string }{
		{"''", ""}, {"'00'", "\x00"}, {"'0123456789abcdef'", "\x01\x23\x45\x67\x89\xab\xcd\xef"}, {"'ABCDEF'", "\xab\xcd\xef"}, {"'fF'", "\xff"}, {"'Ff'", "\xff"}, {"'9a0A'", "\x9a\x0a"}, {"'6127'", "a'"},
	} {
		reads(t, "x"+x.s, octets(x.want, 0))
		reads(t, " X"+x.s+"a", octets(x.want, 1), name("a", 2+len(x.s)))
	}
	reads(t, "x'00''00'", octets("\x00", 0), text("00", 5))
	reads(t, "x'00'x'01'", octets("\x00", 0), octets("\x01", 5))
	reads(t, "ax'00'", name("ax", 0), text("00", 2))
	reads(t, "xx'00'", name("xx", 0), text("00", 2))
	reads(t, "_x'00' x", name("_x", 0), text("00", 2), name("x", 7))
	reads(t, "x1'00' X0'00'", name("x1", 0), text("00", 2), name("x0", 7), text("00", 9))
	reads(t, "a1x'00' a1 x'00'", name("a1x", 0), text("00", 3), name("a1", 8), octets("\x00", 11))
	reads(t, "x", name("x", 0))
	reads(t, "X.x", name("x", 0), symbol(".", 1), name("x", 2))
}

// P4.2: of bytes ErrDigit of what is no digit of sixteen, ErrOpen without an end, then ErrDigit, if a digit lacks; all at their place.
func TestWrongBytes(t *testing.T) {
	for _, s := range []string{"'0'", "'012'", "'0''0'", "'0g'", "'g0'", "'G0'", "' 00'", "'00 '", "'0 0'", "'0x00'", "'-1'", "'00\n'", "'@0'", "'`0'", "'/0'", "':0'", "'0g", "'00\xff", "'00\xff'", "'ß'", "'\x00\x00'", "'00--'"} {
		refuses(t, "x"+s, api.ErrDigit, 0)
		refuses(t, "a  X"+s, api.ErrDigit, 3)
	}
	for _, s := range []string{"'", "'0", "'00", "'000"} {
		refuses(t, "X"+s, api.ErrOpen, 0)
		refuses(t, "'a'(x"+s, api.ErrOpen, 4)
	}
	refuses(t, "x'00''", api.ErrOpen, 5)
}

// P4.2: MaxText bytes may be; more are ErrLong, unless they are wrong in another way.
func TestManyBytes(t *testing.T) {
	digits := strings.Repeat("4a", api.MaxText)
	reads(t, "1,x'"+digits+"'", integer(1, 0), symbol(",", 1), octets(strings.Repeat("J", api.MaxText), 2))
	refuses(t, "1,x'"+digits+"00'", api.ErrLong, 2)
	refuses(t, "1,x'"+digits+"00' !", api.ErrLong, 2)
	refuses(t, "1,x'"+digits+"0'", api.ErrDigit, 2)
	refuses(t, "1,x'"+digits+"000'", api.ErrDigit, 2)
	refuses(t, "1,x'"+digits+"00g'", api.ErrDigit, 2)
	refuses(t, "1,x'"+digits+"00", api.ErrOpen, 2)
	refuses(t, "1,x'"+digits+"000", api.ErrOpen, 2)
}
