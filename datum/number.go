package datum

import (
	"cmp"
	"math"
	"math/bits"

	"freshet/api"
)

// change does OpNeg, OpAbs and OpDec.
func change(op int, a api.Datum) (api.Datum, api.Errno) {
	switch {
	case isNull(a):
		return api.Datum{}, api.OK
	case !isNumber(a):
		return api.Datum{}, api.ErrType
	case op == api.OpDec:
		n, room := scaled(a)
		return number(api.Dec, n, room)
	case op == api.OpAbs && a.I >= 0:
		return a, api.OK
	}
	return number(a.Kind, -a.I, a.I != math.MinInt64)
}

// reckon does OpAdd to OpDiv.
func reckon(op int, a, b api.Datum) (api.Datum, api.Errno) {
	switch {
	case !isNumber(a) && !isNull(a), !isNumber(b) && !isNull(b):
		return api.Datum{}, api.ErrType
	case isNull(a), isNull(b):
		return api.Datum{}, api.OK
	case a.Kind == api.Int && b.Kind == api.Int:
		n, room := arithmetic(op, a.I, b.I, 1)
		return number(api.Int, n, room)
	}
	x, roomA := scaled(a)
	y, roomB := scaled(b)
	if !roomA || !roomB {
		return api.Datum{}, api.ErrEval
	}
	n, room := arithmetic(op, x, y, api.Scale)
	return number(api.Dec, n, room)
}

// number is a number, if it has room.
func number(kind int, n int64, room bool) (api.Datum, api.Errno) {
	if !room {
		return api.Datum{}, api.ErrEval
	}
	return api.Datum{Kind: kind, I: n}, api.OK
}

// scaled is what a number has as a DEC, and whether that has room.
func scaled(a api.Datum) (int64, bool) {
	if a.Kind == api.Dec {
		return a.I, true
	}
	return ratio(a.I, api.Scale, 1)
}

// arithmetic does OpAdd to OpDiv of what is scale times two numbers: scale times the result, and whether that has room.
func arithmetic(op int, a, b, scale int64) (int64, bool) {
	switch op {
	case api.OpAdd:
		return a + b, (a+b >= a) == (b >= 0)
	case api.OpSub:
		return a - b, (a-b <= a) == (b >= 0)
	case api.OpMul:
		return ratio(a, b, scale)
	}
	return ratio(a, scale, b)
}

// ratio is a times b, by c, towards 0, and whether there is such a thing and it has room. The product takes 128 bits, so that only the result needs room.
func ratio(a, b, c int64) (int64, bool) {
	high, low := bits.Mul64(amount(a), amount(b))
	if high >= amount(c) { // a c of 0 is among these
		return 0, false
	}
	n, _ := bits.Div64(high, low, amount(c))
	if (a < 0) != (b < 0) != (c < 0) {
		return -int64(n), n <= 1<<63
	}
	return int64(n), n < 1<<63
}

// amount is a number without its sign: that of -2^63, too.
func amount(n int64) uint64 {
	if n < 0 {
		return -uint64(n)
	}
	return uint64(n)
}

// compareNumbers orders two numbers by what they are.
func compareNumbers(a, b api.Datum) int {
	if a.Kind == b.Kind {
		return Compare(a, b)
	}
	x, roomA := scaled(a)
	y, roomB := scaled(b)
	switch { // an INT without room as a DEC is beyond all DECs
	case !roomA:
		return cmp.Compare(a.I, 0)
	case !roomB:
		return cmp.Compare(0, b.I)
	}
	return cmp.Compare(x, y)
}
