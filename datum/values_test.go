package datum_test

import (
	"math"
	"strings"
	"testing"

	"freshet/api"
	"freshet/datum"
)

var (
	null = api.Datum{}
	yes  = api.Datum{Kind: api.Bool, I: 1}
	no   = api.Datum{Kind: api.Bool}
)

func integer(n int64) api.Datum { return api.Datum{Kind: api.Int, I: n} }

func decimal(n int64) api.Datum { return api.Datum{Kind: api.Dec, I: n} }

func text(s string) api.Datum { return api.Datum{Kind: api.Text, S: s} }

func octets(s string) api.Datum { return api.Datum{Kind: api.Bytes, S: s} }

// rightValues may all be; no two are the same.
func rightValues() []api.Datum {
	l := []api.Datum{null, no, yes}
	for _, n := range edges() {
		l = append(l, integer(n), decimal(n))
	}
	for _, s := range []string{"", "a", "aß", "b", "B", "it's", "\x00", "a\x00", "日本", "\U0010ffff", "\ufffd", strings.Repeat("a", api.MaxText), strings.Repeat("ß", api.MaxText/2)} {
		l = append(l, text(s), octets(s))
	}
	return append(l, octets("\xff"), octets("\x00\xff"), octets(strings.Repeat("\xff", api.MaxText)))
}

// wrongValues may not be, each by one thing alone; no two are the same.
func wrongValues() []api.Datum {
	return []api.Datum{
		{Kind: api.Null, I: 1}, {Kind: api.Null, S: "a"},
		{Kind: api.Bool, I: 2}, {Kind: api.Bool, I: -1}, {Kind: api.Bool, I: 1, S: "a"},
		{Kind: api.Int, I: 1, S: "a"}, {Kind: api.Dec, I: 1, S: "a"},
		{Kind: api.Text, I: 1, S: "a"}, {Kind: api.Text, I: -1},
		text("\xff"), text("a\xc3"), text("\x80"), text("\xc0\x80"), text("\xed\xa0\x80"), text("\xf4\x90\x80\x80"),
		text(strings.Repeat("a", api.MaxText+1)), text(strings.Repeat("ß", api.MaxText/2) + "a"),
		{Kind: api.Bytes, I: 1, S: "a"}, octets(strings.Repeat("a", api.MaxText+1)),
		{Kind: 6}, {Kind: -1}, {Kind: math.MaxInt}, {Kind: math.MinInt},
	}
}

// edges are numbers at which the room, as an INT and as a DEC, of sums, products and quotients ends.
func edges() []int64 {
	l := []int64{0, math.MinInt64, math.MinInt64 + 1}
	for _, n := range []int64{1, 2, 3, 7, 100, 5000, 9999, 10000, 10001, 15000, 20000, 1 << 31, 1 << 32, 3037000499, 3037000500, 1 << 62, math.MaxInt64 / 10000, math.MaxInt64/10000 + 1, math.MaxInt64 / 2, math.MaxInt64 - 1, math.MaxInt64} {
		l = append(l, n, -n)
	}
	l = l[:len(l)-1] // -(2^63 - 1) is there already
	return l
}

// binary and unary are the operators of two arguments, and of one.
func binary() []int {
	return []int{api.OpAdd, api.OpSub, api.OpMul, api.OpDiv, api.OpEq, api.OpNe, api.OpLt, api.OpLe, api.OpGt, api.OpGe, api.OpAnd, api.OpOr}
}

func unary() []int {
	return []int{api.OpNeg, api.OpNot, api.OpIsNull, api.OpLength, api.OpAbs, api.OpDec}
}

// gives asks that Apply answers just that.
func gives(t *testing.T, want api.Datum, op int, args ...api.Datum) {
	t.Helper()
	if got, bad := datum.Apply(op, args...); bad != api.OK || got != want {
		t.Errorf("Apply(%d, %v): %v, error %d; want %v", op, args, got, bad, want)
	}
}

// fails asks that Apply answers that error, and nothing beside it.
func fails(t *testing.T, want api.Errno, op int, args ...api.Datum) {
	t.Helper()
	if got, bad := datum.Apply(op, args...); bad != want || got != null {
		t.Errorf("Apply(%d, %v): %v, error %d; want error %d", op, args, got, bad, want)
	}
}
