package eval_test

import (
	"math"
	"strings"
	"testing"

	"freshet/api"
)

// P7.1: a value by itself, of each kind.
func TestLiterals(t *testing.T) {
	for _, d := range []api.Datum{null, no, yes, integer(0), integer(math.MinInt64), decimal(math.MaxInt64), text(""), text("aß"), text(strings.Repeat("a", api.MaxText)), octets("\x00\xff")} {
		gives(t, d, lit(d), nil)
		// Nothing else that stands in it is looked at.
		gives(t, d, api.Expr{Kind: api.ELit, Lit: d, Type: 77, Null: true, Level: -1, Col: 9, Op: 99, Kids: []api.Expr{scalar(), col(5, 5), {}}, Subs: make([]api.Rel, 3)}, nil)
	}
}

// P7.1: a column is looked for in the row of its Level, at its place.
func TestColumns(t *testing.T) {
	env := []api.Row{{integer(1), integer(2)}, {}, {text("a"), null, octets("a")}}
	gives(t, integer(1), col(0, 0), env)
	gives(t, integer(2), col(0, 1), env)
	gives(t, text("a"), col(2, 0), env)
	gives(t, null, col(2, 1), env)
	gives(t, octets("a"), col(2, 2), env)
	gives(t, integer(3), call(api.OpAdd, col(0, 0), col(0, 1)), env)
	gives(t, integer(3), col(1, 0), []api.Row{{integer(1)}, {integer(3)}})
	gives(t, integer(1), api.Expr{Kind: api.ECol, Type: api.Text, Lit: text("\xff"), Op: 99, Kids: []api.Expr{scalar(), {}}, Subs: make([]api.Rel, 3)}, env)
	for _, e := range []api.Expr{col(0, 2), col(1, 0), col(2, 3), col(3, 0), col(-1, 0), col(0, -1), col(math.MaxInt, 0), col(math.MinInt, 0), col(0, math.MaxInt), col(0, math.MinInt)} {
		fails(t, api.ErrArg, e, env)
	}
	fails(t, api.ErrArg, col(0, 1), []api.Row{{integer(1)}})
	fails(t, api.ErrArg, col(0, 0), nil)
	fails(t, api.ErrArg, col(0, 0), []api.Row{{}})
}

// P7.1: a subquery's value is the one at its place; what it has in it is of no weight.
func TestSubqueries(t *testing.T) {
	for _, e := range []api.Expr{exists(), scalar(), in(), in(lit(null)), {Kind: api.EExists}, {Kind: api.EScalar}, {Kind: api.EIn}} {
		for _, d := range []api.Datum{yes, no, null, integer(7), text("a")} {
			gives(t, d, e, nil, d)
		}
		fails(t, api.ErrArg, e, nil)
		fails(t, api.ErrArg, e, nil, yes, yes)
	}
	// None of what stands in a subquery counts: neither what may not be, nor columns, nor subqueries.
	inner := []api.Expr{scalar(), in(exists()), col(5, 5), col(-1, 0), lit(api.Datum{Kind: 9}), call(99), noValue(), {}}
	for _, kind := range []int{api.EExists, api.EScalar, api.EIn} {
		e := api.Expr{Kind: kind, Type: 99, Lit: api.Datum{Kind: 9}, Level: -1, Col: -1, Op: 99, Kids: inner, Subs: []api.Rel{{Kind: 99, Exprs: inner}, {}}}
		gives(t, yes, e, nil, yes)
		fails(t, api.ErrArg, e, nil, yes, yes)
	}
	// From the left, those further in too.
	e := call(api.OpCoalesce, call(api.OpAdd, scalar(), call(api.OpNeg, scalar())), in(exists()), exists())
	gives(t, integer(4), e, nil, integer(7), integer(3), yes, no)
	gives(t, yes, e, nil, null, integer(3), yes, no)
	gives(t, no, e, nil, null, integer(3), null, no)
	gives(t, null, e, nil, null, integer(3), null, null)
	fails(t, api.ErrArg, e, nil, integer(7), integer(3), yes)
	fails(t, api.ErrArg, e, nil, integer(7), integer(3), yes, no, no)
}

// P7.1: the subqueries of what is not come to have their places all the same.
func TestSubqueriesLeftOut(t *testing.T) {
	eq := func(a, b api.Expr) api.Expr { return call(api.OpEq, a, b) }
	left := call(api.OpAdd, scalar(), call(api.OpSub, scalar(), scalar())) // three
	for _, x := range []struct {
		e    api.Expr
		subs []api.Datum
	}{
		{call(api.OpAnd, lit(no), eq(left, left)), []api.Datum{null, null, null, null, null, null}},
		{call(api.OpOr, scalar(), exists()), []api.Datum{yes, null}},
		{call(api.OpCoalesce, lit(integer(1)), left, in(), left), []api.Datum{null, null, null, null, null, null, null}},
		{call(api.OpCoalesce, lit(null), scalar(), left), []api.Datum{yes, null, null, null}},
		{call(api.OpCase, lit(yes), lit(yes), scalar(), left, exists()), []api.Datum{null, null, null, null, null}},
		{call(api.OpCase, lit(no), left, lit(null), scalar(), exists(), exists(), scalar(), left, left), []api.Datum{null, null, null, null, yes, yes, null, null, null, null, null, null, null}},
		{call(api.OpCase, scalar(), left, scalar()), []api.Datum{no, null, null, null, yes}},
		{call(api.OpCase, scalar(), left, scalar(), left), []api.Datum{no, null, null, null, null, null, null, null}},
	} {
		for _, d := range []api.Datum{integer(7), text("a")} {
			e := call(api.OpCase, call(api.OpIsNull, call(api.OpIsNull, x.e)), lit(null), scalar())
			gives(t, d, e, nil, append(append([]api.Datum{}, x.subs...), d)...)
		}
	}
}

// P7.1: AND and OR, all pairs: the first one alone, if it is enough; else both.
func TestAndOr(t *testing.T) {
	outcomes := map[byte]api.Expr{'f': lit(no), 'n': lit(null), 't': lit(yes), 'i': lit(integer(0)), 's': lit(text("")), 'E': noValue(), 'T': noType()}
	for _, x := range []struct {
		op   int
		want []string // of each first one what comes of it with each second one
	}{
		{api.OpAnd, []string{" fntisET", "fffffffff", "nfnnTTET", "tfntTTET", "iTTTTTET", "sTTTTTET", "EEEEEEEE", "TTTTTTTT"}},
		{api.OpOr, []string{" fntisET", "ffntTTET", "nnntTTET", "tttttttt", "iTTTTTET", "sTTTTTET", "EEEEEEEE", "TTTTTTTT"}},
	} {
		seconds := x.want[0]
		for _, row := range x.want[1:] {
			for i := 1; i < len(seconds); i++ {
				e := call(x.op, outcomes[row[0]], outcomes[seconds[i]])
				switch row[i] {
				case 'E':
					fails(t, api.ErrEval, e, nil)
				case 'T':
					fails(t, api.ErrType, e, nil)
				default:
					gives(t, outcomes[row[i]].Lit, e, nil)
				}
			}
		}
	}
	gives(t, no, call(api.OpAnd, lit(no), call(api.OpEq, noValue(), lit(integer(1)))), nil)
	fails(t, api.ErrEval, call(api.OpAnd, lit(null), call(api.OpEq, noValue(), lit(integer(1)))), nil)
	gives(t, no, call(api.OpAnd, call(api.OpAnd, lit(no), noValue()), noType()), nil)
	gives(t, yes, call(api.OpOr, call(api.OpAnd, lit(no), noValue()), call(api.OpOr, lit(yes), noType())), nil)
}

// P7.1: CASE goes from condition to condition, till one is true.
func TestCase(t *testing.T) {
	one, two, three, other := lit(integer(1)), lit(integer(2)), lit(integer(3)), lit(text("other"))
	for _, x := range []struct {
		kids []api.Expr
		want api.Datum
	}{
		{[]api.Expr{lit(yes), one}, integer(1)}, {[]api.Expr{lit(no), one}, null}, {[]api.Expr{lit(null), one}, null},
		{[]api.Expr{lit(yes), one, two}, integer(1)}, {[]api.Expr{lit(no), one, two}, integer(2)}, {[]api.Expr{lit(null), one, other}, text("other")},
		{[]api.Expr{lit(no), one, lit(yes), two, three}, integer(2)}, {[]api.Expr{lit(null), one, lit(no), two, three}, integer(3)}, {[]api.Expr{lit(no), one, lit(null), two}, null},
		{[]api.Expr{lit(yes), one, lit(yes), two}, integer(1)}, {[]api.Expr{lit(no), one, lit(no), two, lit(yes), other}, text("other")}, {[]api.Expr{lit(yes), lit(null), two}, null},
		// The last one that stands alone is no condition, nor is a value.
		{[]api.Expr{lit(no), one, lit(no)}, no}, {[]api.Expr{lit(no), one, lit(yes)}, yes}, {[]api.Expr{lit(no), lit(yes), two}, integer(2)}, {[]api.Expr{lit(yes), lit(no), two}, no},
		// What is not come to is not looked at.
		{[]api.Expr{lit(no), noValue()}, null}, {[]api.Expr{lit(null), noType(), one}, integer(1)}, {[]api.Expr{lit(yes), one, noValue()}, integer(1)},
		{[]api.Expr{lit(yes), one, noType(), noValue(), noType()}, integer(1)}, {[]api.Expr{lit(yes), one, two, three, other}, integer(1)}, {[]api.Expr{lit(no), noType(), lit(yes), two, one, noValue()}, integer(2)},
	} {
		gives(t, x.want, call(api.OpCase, x.kids...), nil)
	}
	for _, d := range []api.Datum{integer(0), integer(1), decimal(1), decimal(0), text(""), text("TRUE"), octets("\x01")} {
		for _, kids := range [][]api.Expr{{lit(d), one}, {lit(d), one, two}, {lit(d), noValue(), noValue()}, {lit(no), noValue(), lit(d), one}, {lit(null), one, lit(d), one, two}, {lit(no), one, lit(d), two, lit(yes), three}, {lit(d), one, noValue(), two}} {
			fails(t, api.ErrType, call(api.OpCase, kids...), nil)
		}
	}
	for bad, e := range map[api.Errno]api.Expr{api.ErrEval: noValue(), api.ErrType: noType()} {
		for _, kids := range [][]api.Expr{{e, one}, {e, one, two}, {lit(yes), e}, {lit(yes), e, one}, {lit(no), one, e}, {lit(no), one, e, two, three}, {lit(no), one, lit(yes), e}, {lit(null), one, lit(no), two, e}} {
			fails(t, bad, call(api.OpCase, kids...), nil)
		}
	}
	fails(t, api.ErrEval, call(api.OpCase, noValue(), one, noType(), two), nil)
	fails(t, api.ErrEval, call(api.OpCase, lit(no), noType(), noValue(), two, noType()), nil)
	fails(t, api.ErrType, call(api.OpCase, lit(no), noValue(), one, two, noValue()), nil)
}

// P7.1: COALESCE goes from the left, till something is not NULL.
func TestCoalesce(t *testing.T) {
	for _, d := range []api.Datum{no, yes, integer(0), decimal(0), text(""), octets("")} {
		gives(t, d, call(api.OpCoalesce, lit(d)), nil)
		gives(t, d, call(api.OpCoalesce, lit(null), lit(d), lit(integer(7))), nil)
		gives(t, d, call(api.OpCoalesce, lit(d), lit(null)), nil)
		gives(t, d, call(api.OpCoalesce, lit(d), noValue(), noType()), nil)
		gives(t, d, call(api.OpCoalesce, lit(null), lit(null), lit(d), noType()), nil)
	}
	gives(t, null, call(api.OpCoalesce, lit(null)), nil)
	gives(t, null, call(api.OpCoalesce, lits(null, null, null)...), nil)
	fails(t, api.ErrEval, call(api.OpCoalesce, noValue(), lit(integer(1))), nil)
	fails(t, api.ErrEval, call(api.OpCoalesce, lit(null), noValue(), noType(), lit(integer(1))), nil)
	fails(t, api.ErrType, call(api.OpCoalesce, lit(null), noType(), noValue()), nil)
	fails(t, api.ErrType, call(api.OpCoalesce, lit(null), noType()), nil)
}

// P7.1: of all others all values, and what the operator makes of them.
func TestOperators(t *testing.T) {
	two, three := integer(2), integer(3)
	for _, x := range []struct {
		op   int
		args []api.Datum
		want api.Datum
	}{
		{api.OpNeg, []api.Datum{two}, integer(-2)}, {api.OpNot, []api.Datum{yes}, no}, {api.OpNot, []api.Datum{null}, null},
		{api.OpAdd, []api.Datum{two, three}, integer(5)}, {api.OpSub, []api.Datum{two, three}, integer(-1)}, {api.OpMul, []api.Datum{two, three}, integer(6)}, {api.OpDiv, []api.Datum{integer(7), three}, two},
		{api.OpDiv, []api.Datum{decimal(10000), two}, decimal(5000)}, {api.OpAdd, []api.Datum{null, two}, null},
		{api.OpEq, []api.Datum{two, decimal(20000)}, yes}, {api.OpNe, []api.Datum{two, two}, no}, {api.OpLt, []api.Datum{two, three}, yes}, {api.OpLe, []api.Datum{three, two}, no}, {api.OpGt, []api.Datum{two, three}, no}, {api.OpGe, []api.Datum{three, two}, yes}, {api.OpLt, []api.Datum{two, null}, null},
		{api.OpIsNull, []api.Datum{null}, yes}, {api.OpIsNull, []api.Datum{two}, no},
		{api.OpLength, []api.Datum{text("aß")}, two}, {api.OpLength, []api.Datum{octets("aß")}, three}, {api.OpAbs, []api.Datum{integer(-2)}, two}, {api.OpDec, []api.Datum{two}, decimal(20000)},
	} {
		gives(t, x.want, call(x.op, lits(x.args...)...), nil)
		gives(t, x.want, api.Expr{Kind: api.ECall, Op: x.op, Type: 99, Lit: text("\xff"), Level: -1, Kids: lits(x.args...), Subs: make([]api.Rel, 2)}, nil)
		cols := []api.Expr{col(1, 0), col(1, 1)}
		gives(t, x.want, call(x.op, cols[:len(x.args)]...), []api.Row{nil, x.args})
		subs := []api.Expr{scalar(), in()}
		gives(t, x.want, call(x.op, subs[:len(x.args)]...), nil, x.args...)
	}
	fails(t, api.ErrEval, call(api.OpNeg, lit(integer(math.MinInt64))), nil)
	fails(t, api.ErrEval, call(api.OpAdd, lit(integer(math.MaxInt64)), lit(integer(1))), nil)
	fails(t, api.ErrEval, call(api.OpDec, lit(integer(math.MaxInt64))), nil)
	fails(t, api.ErrType, call(api.OpAdd, lit(integer(1)), lit(text("a"))), nil)
	fails(t, api.ErrType, call(api.OpEq, lit(yes), lit(integer(1))), nil)
	fails(t, api.ErrType, call(api.OpLength, lit(integer(1))), nil)
}

// P7.1: of several errors the first one that is met: the kids' from the left, then the operator's own.
func TestFirstError(t *testing.T) {
	for _, op := range []int{api.OpAdd, api.OpSub, api.OpMul, api.OpDiv, api.OpEq, api.OpNe, api.OpLt, api.OpLe, api.OpGt, api.OpGe, api.OpAnd, api.OpOr} {
		fails(t, api.ErrEval, call(op, noValue(), noType()), nil)
		fails(t, api.ErrType, call(op, noType(), noValue()), nil)
		fails(t, api.ErrEval, call(op, lit(null), noValue()), nil)
		fails(t, api.ErrEval, call(op, lit(text("a")), noValue()), nil)
		fails(t, api.ErrEval, call(op, noValue(), lit(text("a"))), nil)
		fails(t, api.ErrType, call(op, lit(null), noType()), nil)
	}
	for _, op := range []int{api.OpNeg, api.OpNot, api.OpIsNull, api.OpLength, api.OpAbs, api.OpDec} {
		fails(t, api.ErrEval, call(op, noValue()), nil)
		fails(t, api.ErrType, call(op, noType()), nil)
	}
}

// P7.1: the chapter's examples.
func TestExamples(t *testing.T) {
	one, zero := lit(integer(1)), lit(integer(0))
	wrong := call(api.OpEq, call(api.OpDiv, one, zero), one)
	gives(t, integer(2), col(0, 1), []api.Row{{integer(1), integer(2)}})
	gives(t, integer(3), col(1, 0), []api.Row{{integer(1)}, {integer(3)}})
	fails(t, api.ErrArg, col(0, 1), []api.Row{{integer(1)}})
	gives(t, no, call(api.OpAnd, lit(no), wrong), nil)
	fails(t, api.ErrEval, call(api.OpAnd, lit(null), wrong), nil)
	gives(t, null, call(api.OpCase, lit(no), call(api.OpDiv, one, zero)), nil)
	gives(t, integer(1), call(api.OpCoalesce, one, call(api.OpDiv, one, zero)), nil)
	gives(t, yes, exists(), nil, yes)
	fails(t, api.ErrArg, exists(), nil)
}

// R6: the same is told again, whatever was asked between.
func TestAgain(t *testing.T) {
	e, env := call(api.OpAdd, col(0, 0), scalar()), []api.Row{{integer(1)}}
	for range 3 {
		gives(t, integer(3), e, env, integer(2))
		fails(t, api.ErrType, e, env, yes)
		fails(t, api.ErrArg, e, nil, integer(2))
		fails(t, api.ErrEval, e, env, integer(math.MaxInt64))
	}
}
