package eval_test

import (
	"math"
	"slices"
	"testing"

	"freshet/api"
)

// around are expressions in which one stands: come to, not come to, behind errors, further in.
func around(e api.Expr) []api.Expr {
	one := lit(integer(1))
	l := []api.Expr{
		e, call(api.OpNot, e), call(api.OpAdd, e, one), call(api.OpAdd, one, e), call(api.OpEq, noValue(), e), call(api.OpAnd, noType(), e),
		call(api.OpAnd, e, lit(no)), call(api.OpAnd, lit(no), e), call(api.OpOr, lit(yes), e), call(api.OpCoalesce, one, noValue(), e),
		call(api.OpCase, lit(yes), one, e), call(api.OpCase, lit(no), e), call(api.OpCase, lit(yes), one, e, one), call(api.OpCase, one, one, lit(no), e, one), call(api.OpCase, e, one),
	}
	for _, f := range slices.Clone(l) {
		l = append(l, call(api.OpAnd, lit(no), call(api.OpNeg, f)), call(api.OpIsNull, call(api.OpCoalesce, one, f)))
	}
	return l
}

// refused asks that something wrong is ErrArg, wherever it stands; but not in a subquery.
func refused(t *testing.T, e api.Expr, env []api.Row) {
	t.Helper()
	for _, f := range around(e) {
		fails(t, api.ErrArg, f, env)
	}
	gives(t, yes, in(e), env, yes)
}

// P7.1: expressions of kinds that there are not.
func TestWrongKinds(t *testing.T) {
	for _, kind := range []int{0, 7, 8, -1, api.ALit, api.AOp, 1<<32 + 1, math.MaxInt, math.MinInt} {
		refused(t, api.Expr{Kind: kind}, nil)
		refused(t, api.Expr{Kind: kind, Op: api.OpNot, Kids: lits(yes), Lit: yes}, []api.Row{{yes}})
	}
}

// P7.1: operators that there are not, and numbers of kids that one does not have.
func TestWrongCalls(t *testing.T) {
	ops := []int{math.MinInt, math.MaxInt, 1 << 32, 1<<32 + api.OpNot}
	for op := -25; op <= 45; op++ {
		ops = append(ops, op)
	}
	for _, op := range ops {
		for n := range 10 {
			e := call(op, slices.Repeat(lits(null), n)...)
			switch {
			case !slices.Contains(kidsOf(op), n):
				refused(t, e, nil)
			case op == api.OpIsNull:
				gives(t, yes, e, nil)
			default:
				gives(t, null, e, nil)
			}
		}
	}
	many := slices.Repeat(lits(null), 99999)
	refused(t, call(api.OpAnd, many...), nil)
	refused(t, call(api.OpNot, many...), nil)
	gives(t, null, call(api.OpCoalesce, many...), nil)
	gives(t, null, call(api.OpCase, many...), nil)
	gives(t, yes, call(api.OpCase, append(many[1:], lit(yes))...), nil)
	gives(t, null, call(api.OpCase, append(many, lit(yes))...), nil) // the last one no longer stands alone
}

// P7.1: values that may not be: of literals, of the columns that are asked for, of subqueries.
func TestWrongValues(t *testing.T) {
	for _, d := range wrongValues() {
		refused(t, lit(d), nil)
		refused(t, col(0, 1), []api.Row{{integer(1), d}})
		refused(t, col(2, 0), []api.Row{nil, {integer(1)}, {d, integer(1)}})
		for _, e := range around(lit(integer(1))) {
			fails(t, api.ErrArg, e, nil, d)
		}
		for _, e := range around(scalar()) {
			fails(t, api.ErrArg, e, nil, d)
		}
		fails(t, api.ErrArg, call(api.OpAnd, exists(), exists()), nil, no, d)
		fails(t, api.ErrArg, call(api.OpCoalesce, scalar(), scalar()), nil, integer(1), d)
		fails(t, api.ErrArg, call(api.OpCoalesce, scalar(), scalar()), nil, d, integer(1))
		// What no column asks for is not looked at.
		gives(t, integer(1), col(1, 1), []api.Row{{d}, {d, integer(1), d}, {d}})
		gives(t, integer(1), lit(integer(1)), []api.Row{{d}})
	}
}

// P7.1: columns without a value.
func TestWrongColumns(t *testing.T) {
	env := []api.Row{{integer(1), integer(2)}, {}, {null}}
	for _, e := range []api.Expr{col(0, 2), col(1, 0), col(2, 1), col(3, 0), col(-1, 0), col(0, -1), col(math.MaxInt, 0), col(0, math.MaxInt), col(math.MinInt, math.MinInt), col(1<<32, 0), col(0, 1<<32)} {
		refused(t, e, env)
	}
	refused(t, col(0, 0), nil)
}

// P7.1: as many values of subqueries as there are subqueries, neither fewer nor more.
func TestWrongNumberOfSubs(t *testing.T) {
	for n, e := range []api.Expr{lit(null), exists(), call(api.OpAnd, scalar(), in(scalar(), exists())), call(api.OpCase, exists(), lit(null), call(api.OpNot, scalar()), scalar())} {
		for m := range 6 {
			subs := make([]api.Datum, m)
			for _, f := range around(e) {
				if _, bad := value(f, subs...); (bad == api.ErrArg) != (m != n) {
					t.Errorf("%.300s: error %d of %d values", show(f), bad, m)
				}
			}
		}
	}
}

// P7.1: that something may not be is told ahead of all that it would be worth.
func TestWrongAheadOfErrors(t *testing.T) {
	for _, e := range []api.Expr{noValue(), noType()} {
		fails(t, api.ErrArg, e, nil, null)
		fails(t, api.ErrArg, call(api.OpAdd, e, scalar()), nil)
		fails(t, api.ErrArg, call(api.OpAdd, e, col(0, 0)), nil)
		fails(t, api.ErrArg, call(api.OpAdd, e, lit(api.Datum{Kind: 9})), nil)
		fails(t, api.ErrArg, call(api.OpCoalesce, e, call(api.OpCoalesce)), nil)
		fails(t, api.ErrArg, call(api.OpCase, e, e, call(api.OpAnd, e)), nil)
		fails(t, api.ErrArg, call(api.OpCase, e), nil)
		fails(t, api.ErrArg, call(api.OpNot, e, e), nil)
	}
}
