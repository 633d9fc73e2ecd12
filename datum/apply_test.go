package datum_test

import (
	"math"
	"slices"
	"strings"
	"testing"

	"freshet/api"
	"freshet/datum"
)

// P1.2: operators that there are not, and arguments that are not as many as they have.
func TestApplyArguments(t *testing.T) {
	has := map[int]int{}
	for _, op := range unary() {
		has[op] = 1
	}
	for _, op := range binary() {
		has[op] = 2
	}
	ops := []int{math.MinInt, math.MaxInt, 1 << 32, 1<<32 + api.OpNot}
	for op := -25; op <= 45; op++ {
		ops = append(ops, op)
	}
	for _, op := range ops {
		for n := range 4 {
			want := api.ErrArg
			if has[op] > 0 && has[op] == n {
				want = api.OK
			}
			if _, bad := datum.Apply(op, make([]api.Datum, n)...); bad != want {
				t.Errorf("Apply(%d) of %d NULLs: error %d; want %d", op, n, bad, want)
			}
			if want == api.ErrArg {
				fails(t, want, op, slices.Repeat([]api.Datum{yes}, n)...)
			}
		}
	}
}

// P1.2: a value that may not be is ErrArg, whatever stands beside it, ahead of ErrType.
func TestApplyWrongValues(t *testing.T) {
	for _, d := range wrongValues() {
		for _, op := range unary() {
			fails(t, api.ErrArg, op, d)
		}
		for _, op := range binary() {
			for _, e := range []api.Datum{null, no, yes, integer(0), text("a"), d} {
				fails(t, api.ErrArg, op, d, e)
				fails(t, api.ErrArg, op, e, d)
			}
		}
	}
}

// P1.2: NOT, AND, OR.
func TestApplyLogic(t *testing.T) {
	gives(t, null, api.OpNot, null)
	gives(t, yes, api.OpNot, no)
	gives(t, no, api.OpNot, yes)
	for _, x := range []struct{ a, b, and, or api.Datum }{
		{no, no, no, no}, {no, null, no, null}, {no, yes, no, yes},
		{null, no, no, null}, {null, null, null, null}, {null, yes, null, yes},
		{yes, no, no, yes}, {yes, null, null, yes}, {yes, yes, yes, yes},
	} {
		gives(t, x.and, api.OpAnd, x.a, x.b)
		gives(t, x.or, api.OpOr, x.a, x.b)
	}
	for _, d := range []api.Datum{integer(0), integer(1), decimal(1), text(""), text("TRUE"), octets("a")} {
		fails(t, api.ErrType, api.OpNot, d)
		for _, e := range []api.Datum{null, no, yes, d} {
			for _, op := range []int{api.OpAnd, api.OpOr} {
				fails(t, api.ErrType, op, d, e)
				fails(t, api.ErrType, op, e, d)
			}
		}
	}
}

// P1.2: OpIsNull takes values of all kinds.
func TestApplyIsNull(t *testing.T) {
	for _, d := range rightValues() {
		want := no
		if d == null {
			want = yes
		}
		gives(t, want, api.OpIsNull, d)
	}
}

// P1.2: OpNeg, OpAbs, OpDec.
func TestApplyOneNumber(t *testing.T) {
	gives(t, integer(-5), api.OpNeg, integer(5))
	gives(t, decimal(5), api.OpNeg, decimal(-5))
	gives(t, integer(math.MinInt64+1), api.OpNeg, integer(math.MaxInt64))
	gives(t, integer(5), api.OpAbs, integer(-5))
	gives(t, decimal(5), api.OpAbs, decimal(-5))
	gives(t, decimal(5), api.OpAbs, decimal(5))
	gives(t, integer(math.MaxInt64), api.OpAbs, integer(math.MinInt64+1))
	for _, d := range []api.Datum{integer(math.MinInt64), decimal(math.MinInt64)} {
		fails(t, api.ErrEval, api.OpNeg, d)
		fails(t, api.ErrEval, api.OpAbs, d)
	}
	gives(t, decimal(20000), api.OpDec, integer(2))
	gives(t, decimal(-20000), api.OpDec, integer(-2))
	gives(t, decimal(9223372036854770000), api.OpDec, integer(922337203685477))
	gives(t, decimal(-9223372036854770000), api.OpDec, integer(-922337203685477))
	fails(t, api.ErrEval, api.OpDec, integer(922337203685478))
	fails(t, api.ErrEval, api.OpDec, integer(-922337203685478))
	fails(t, api.ErrEval, api.OpDec, integer(math.MinInt64))
	gives(t, decimal(math.MinInt64), api.OpDec, decimal(math.MinInt64))
	for _, op := range []int{api.OpNeg, api.OpAbs, api.OpDec} {
		gives(t, null, op, null)
		for _, d := range []api.Datum{no, yes, text("1"), octets("1")} {
			fails(t, api.ErrType, op, d)
		}
	}
}

// P1.2: sums, differences, products and quotients, by their examples.
func TestApplyTwoNumbers(t *testing.T) {
	gives(t, integer(5), api.OpAdd, integer(2), integer(3))
	gives(t, integer(-1), api.OpSub, integer(2), integer(3))
	gives(t, integer(6), api.OpMul, integer(2), integer(3))
	gives(t, integer(0), api.OpDiv, integer(1), integer(2))
	gives(t, decimal(5000), api.OpDiv, decimal(10000), integer(2))
	gives(t, integer(-3), api.OpDiv, integer(7), integer(-2))
	gives(t, integer(-3), api.OpDiv, integer(-7), integer(2))
	gives(t, integer(3), api.OpDiv, integer(-7), integer(-2))
	gives(t, decimal(15000), api.OpAdd, integer(1), decimal(5000))
	gives(t, decimal(-15000), api.OpSub, decimal(5000), integer(2))
	gives(t, decimal(1), api.OpMul, decimal(15000), decimal(1))
	gives(t, decimal(-1), api.OpMul, decimal(-19999), decimal(1))
	gives(t, decimal(0), api.OpMul, decimal(-9999), decimal(1))
	gives(t, decimal(3333), api.OpDiv, decimal(10000), integer(3))
	gives(t, decimal(-6666), api.OpDiv, decimal(-20000), integer(3))
	gives(t, decimal(math.MinInt64), api.OpMul, decimal(math.MinInt64), integer(1))
	gives(t, integer(math.MinInt64), api.OpDiv, integer(math.MinInt64), integer(1))
	gives(t, integer(1), api.OpDiv, integer(math.MinInt64), integer(math.MinInt64))
	fails(t, api.ErrEval, api.OpDiv, integer(math.MinInt64), integer(-1))
	fails(t, api.ErrEval, api.OpAdd, integer(math.MaxInt64), integer(1))
	fails(t, api.ErrEval, api.OpSub, integer(math.MinInt64), integer(1))
	fails(t, api.ErrEval, api.OpMul, integer(math.MinInt64), integer(-1))
	fails(t, api.ErrEval, api.OpDiv, decimal(math.MaxInt64), decimal(9999))
	fails(t, api.ErrEval, api.OpMul, integer(922337203685478), decimal(0))
	fails(t, api.ErrEval, api.OpSub, decimal(0), integer(-922337203685478))
	for _, d := range []api.Datum{integer(0), decimal(0)} {
		for _, e := range []api.Datum{integer(0), integer(1), decimal(-1), integer(math.MinInt64)} {
			fails(t, api.ErrEval, api.OpDiv, e, d)
		}
	}
}

// P1.2: arithmetic with NULL, and with what is no number.
func TestApplyArithmeticKinds(t *testing.T) {
	for _, op := range []int{api.OpAdd, api.OpSub, api.OpMul, api.OpDiv} {
		for _, d := range []api.Datum{null, integer(0), integer(math.MinInt64), decimal(0), decimal(1)} {
			gives(t, null, op, null, d)
			gives(t, null, op, d, null)
			for _, e := range []api.Datum{no, yes, text("1"), octets("1")} {
				fails(t, api.ErrType, op, d, e)
				fails(t, api.ErrType, op, e, d)
				fails(t, api.ErrType, op, e, e)
			}
		}
	}
}

// P1.2: which two can be held against each other.
func TestApplyRelationKinds(t *testing.T) {
	number := func(d api.Datum) bool { return d.Kind == api.Int || d.Kind == api.Dec }
	for _, op := range []int{api.OpEq, api.OpNe, api.OpLt, api.OpLe, api.OpGt, api.OpGe} {
		for _, a := range []api.Datum{null, no, yes, integer(1), decimal(1), text("1"), octets("1")} {
			for _, b := range []api.Datum{null, no, yes, integer(1), decimal(1), text("1"), octets("1")} {
				got, bad := datum.Apply(op, a, b)
				switch {
				case a == null || b == null:
					gives(t, null, op, a, b)
				case a.Kind == b.Kind, number(a) && number(b):
					if bad != api.OK || got != yes && got != no {
						t.Errorf("Apply(%d, %v, %v): %v, error %d", op, a, b, got, bad)
					}
				default:
					fails(t, api.ErrType, op, a, b)
				}
			}
		}
	}
}

// P1.2: what the six relations say of one ahead of another, and of two that are the same.
func TestApplyRelations(t *testing.T) {
	relations := func(a, b, eq, ne, lt, le, gt, ge api.Datum) {
		t.Helper()
		for i, want := range []api.Datum{eq, ne, lt, le, gt, ge} {
			gives(t, want, api.OpEq+i, a, b)
		}
	}
	for _, x := range [][2]api.Datum{
		{no, yes}, {integer(-1), integer(0)}, {integer(1), integer(2)}, {decimal(-1), decimal(0)}, {decimal(10000), decimal(10001)},
		{text(""), text("a")}, {text("B"), text("a")}, {text("a"), text("aa")}, {text("z"), text("ß")}, {octets("a"), octets("b")}, {octets("\x7f"), octets("\x80")},
		{integer(1), decimal(10001)}, {decimal(9999), integer(1)}, {decimal(20000), integer(3)}, {integer(-1), decimal(-9999)},
		{decimal(0), integer(math.MaxInt64)}, {decimal(math.MaxInt64), integer(math.MaxInt64)}, {decimal(math.MaxInt64), integer(922337203685478)}, {integer(922337203685477), decimal(math.MaxInt64)},
		{integer(math.MinInt64), decimal(0)}, {integer(math.MinInt64), decimal(math.MinInt64)}, {integer(-922337203685478), decimal(math.MinInt64)}, {decimal(math.MinInt64), integer(-922337203685477)},
	} {
		relations(x[0], x[1], no, yes, yes, yes, no, no)
		relations(x[1], x[0], no, yes, no, no, yes, yes)
	}
	for _, x := range [][2]api.Datum{
		{no, no}, {yes, yes}, {integer(5), integer(5)}, {decimal(5), decimal(5)}, {text("a"), text("a")}, {octets("a"), octets("a")},
		{integer(2), decimal(20000)}, {decimal(-20000), integer(-2)}, {integer(0), decimal(0)}, {decimal(9223372036854770000), integer(922337203685477)},
	} {
		relations(x[0], x[1], yes, no, no, yes, no, yes)
	}
}

// P1.2: OpLength counts a TEXT's runes, and BYTES' bytes.
func TestApplyLength(t *testing.T) {
	gives(t, null, api.OpLength, null)
	gives(t, integer(0), api.OpLength, text(""))
	gives(t, integer(2), api.OpLength, text("aß"))
	gives(t, integer(4), api.OpLength, text("日\x00\ufffd\U0010ffff"))
	gives(t, integer(api.MaxText/2), api.OpLength, text(strings.Repeat("ß", api.MaxText/2)))
	gives(t, integer(api.MaxText), api.OpLength, text(strings.Repeat("a", api.MaxText)))
	gives(t, integer(0), api.OpLength, octets(""))
	gives(t, integer(2), api.OpLength, octets("\x00\xff"))
	gives(t, integer(3), api.OpLength, octets("aß"))
	for _, d := range []api.Datum{no, yes, integer(1), decimal(1)} {
		fails(t, api.ErrType, api.OpLength, d)
	}
}

// R1, R2, R4: every call ends, with an error there is no answer, an answer may be, and the arguments stay as they were.
func TestApplyEverything(t *testing.T) {
	all := append(rightValues(), wrongValues()...)
	look := func(op int, args ...api.Datum) {
		before := slices.Clone(args)
		got, bad := datum.Apply(op, args...)
		if bad != api.OK && got != null {
			t.Errorf("Apply(%d, %v): %v beside error %d", op, args, got, bad)
		}
		if !datum.Right(got) {
			t.Errorf("Apply(%d, %v): %v", op, args, got)
		}
		if !slices.Equal(args, before) {
			t.Errorf("Apply(%d, %v): now %v", op, before, args)
		}
	}
	for op := range 22 {
		look(op)
		for _, a := range all {
			look(op, a)
			for _, b := range all {
				look(op, a, b)
			}
		}
	}
}
