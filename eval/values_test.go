package eval_test

import (
	"fmt"
	"math/rand/v2"
	"slices"
	"strconv"
	"strings"
	"testing"

	"freshet/api"
	"freshet/datum"
	"freshet/eval"
)

var (
	null = api.Datum{}
	yes  = api.Datum{Kind: api.Bool, I: 1}
	no   = api.Datum{Kind: api.Bool}
)

func integer(n int64) api.Datum { return api.Datum{Kind: api.Int, I: n} }

func decimal(n int64) api.Datum { return api.Datum{Kind: api.Dec, I: n} }

func text(s string) api.Datum { return api.Datum{Kind: api.Text, S: s} }

func octets(s string) api.Datum { return api.Datum{Kind: api.Bytes, S: s} }

// wrongValues may not be, each by one thing alone.
func wrongValues() []api.Datum {
	return []api.Datum{
		{Kind: api.Null, I: 1}, {Kind: api.Null, S: "a"}, {Kind: api.Bool, I: 2}, {Kind: api.Bool, I: -1}, {Kind: api.Bool, S: "a"},
		{Kind: api.Int, S: "a"}, {Kind: api.Dec, S: "a"}, {Kind: api.Text, I: 1}, text("\xff"), text(strings.Repeat("a", api.MaxText+1)),
		{Kind: api.Bytes, I: 1}, octets(strings.Repeat("a", api.MaxText+1)), {Kind: 6}, {Kind: -1},
	}
}

func lit(d api.Datum) api.Expr { return api.Expr{Kind: api.ELit, Lit: d} }

func lits(l ...api.Datum) []api.Expr {
	var all []api.Expr
	for _, d := range l {
		all = append(all, lit(d))
	}
	return all
}

func col(level, at int) api.Expr { return api.Expr{Kind: api.ECol, Level: level, Col: at} }

func call(op int, kids ...api.Expr) api.Expr {
	return api.Expr{Kind: api.ECall, Op: op, Kids: kids}
}

// exists, scalar and in are subqueries; what they have in them is of no weight.
func exists() api.Expr { return api.Expr{Kind: api.EExists, Subs: []api.Rel{{Kind: api.ROne}}} }

func scalar() api.Expr { return api.Expr{Kind: api.EScalar, Subs: []api.Rel{{Kind: api.ROne}}} }

func in(kids ...api.Expr) api.Expr {
	return api.Expr{Kind: api.EIn, Kids: kids, Subs: []api.Rel{{Kind: api.ROne}}}
}

// noValue is 1 / 0: ErrEval; noType is NOT 1: ErrType.
func noValue() api.Expr { return call(api.OpDiv, lit(integer(1)), lit(integer(0))) }

func noType() api.Expr { return call(api.OpNot, lit(integer(1))) }

// kidsOf are the numbers of kids, of those up to 9, that an operator can have.
func kidsOf(op int) []int {
	switch {
	case op == api.OpCase:
		return []int{2, 3, 4, 5, 6, 7, 8, 9}
	case op == api.OpCoalesce:
		return []int{1, 2, 3, 4, 5, 6, 7, 8, 9}
	case slices.Contains([]int{api.OpNeg, api.OpNot, api.OpIsNull, api.OpLength, api.OpAbs, api.OpDec}, op):
		return []int{1}
	case api.OpNeg <= op && op <= api.OpDec:
		return []int{2}
	}
	return nil
}

// gives asks that an expression is worth just that.
func gives(t *testing.T, want api.Datum, e api.Expr, env []api.Row, subs ...api.Datum) {
	t.Helper()
	if got, bad := eval.Value(e, env, subs...); bad != api.OK || got != want {
		t.Errorf("%.300s on %.300s: %v, error %d; want %v", show(e), fmt.Sprint(env, subs), got, bad, want)
	}
}

// fails asks that an expression has that error, and nothing beside it.
func fails(t *testing.T, want api.Errno, e api.Expr, env []api.Row, subs ...api.Datum) {
	t.Helper()
	if got, bad := eval.Value(e, env, subs...); bad != want || got != null {
		t.Errorf("%.300s on %.300s: %v, error %d; want error %d", show(e), fmt.Sprint(env, subs), got, bad, want)
	}
}

// show writes an expression.
func show(e api.Expr) string {
	switch e.Kind {
	case api.ELit:
		return datum.Print(e.Lit)
	case api.ECol:
		return "{" + strconv.Itoa(e.Level) + ", " + strconv.Itoa(e.Col) + "}"
	}
	var kids []string
	for _, kid := range e.Kids {
		kids = append(kids, show(kid))
	}
	return strconv.Itoa(e.Kind) + ":" + strconv.Itoa(e.Op) + "(" + strings.Join(kids, ", ") + ")"
}

// lot draws numbers, the same ones at each run.
func lot(seed uint64) *rand.Rand { return rand.New(rand.NewPCG(7, seed)) }

func chance(by *rand.Rand, n int) bool { return by.IntN(n) == 0 }

func pick[T any](by *rand.Rand, l ...T) T { return l[by.IntN(len(l))] }

// value is what an expression without columns is worth.
func value(e api.Expr, subs ...api.Datum) (api.Datum, api.Errno) { return eval.Value(e, nil, subs...) }
