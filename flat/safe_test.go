package flat_test

import (
	"slices"
	"testing"

	"freshet/api"
	"freshet/eval"
	"freshet/flat"
)

// safeOps are the operators that are safe.
func safeOps() []int {
	return []int{api.OpNot, api.OpEq, api.OpNe, api.OpLt, api.OpLe, api.OpGt, api.OpGe, api.OpAnd, api.OpOr, api.OpIsNull, api.OpCase, api.OpCoalesce, api.OpLength}
}

func isSafe(t *testing.T, e api.Expr, want bool) {
	t.Helper()
	if got := flat.Safe(e); got != want {
		t.Errorf("%s: %v", describe(mapped(listed(0), e)), got)
	}
}

// P9.3: kinds of expressions, and operators.
func TestSafe(t *testing.T) {
	for kind := -1; kind < 9; kind++ {
		isSafe(t, api.Expr{Kind: kind, Op: api.OpNot}, 1 <= kind && kind <= 3)
	}
	for op := -1; op < 30; op++ {
		for n := range 4 {
			isSafe(t, call(op, slices.Repeat([]api.Expr{col(1)}, n)...), slices.Contains(safeOps(), op))
		}
	}
	// Whatever may not be beside what is asked.
	isSafe(t, lit(api.Datum{Kind: 9}), true)
	isSafe(t, api.Expr{Kind: api.ECol, Level: 3, Col: -1}, true)
	isSafe(t, api.Expr{Kind: api.ELit, Kids: []api.Expr{wrong()}}, true)
	isSafe(t, api.Expr{Kind: api.ECol, Op: api.OpDiv, Kids: []api.Expr{wrong()}, Subs: []api.Rel{{}}}, true)
}

// P9.3: one that is not safe makes none safe in which it stands.
func TestSafeWithin(t *testing.T) {
	for _, e := range []api.Expr{wrong(), call(api.OpNeg, col(0)), call(api.OpAbs, col(0)), call(api.OpDec, col(0)), call(api.OpAdd, col(0), col(0)), call(99), {}, {Kind: api.EExists}, {Kind: api.EScalar}, {Kind: api.EIn}} {
		isSafe(t, e, false)
		for _, op := range safeOps() {
			for n := range 4 {
				kids := slices.Repeat([]api.Expr{lit(yes)}, n+1)
				isSafe(t, call(op, kids...), true)
				for i := range kids {
					kids := slices.Clone(kids)
					kids[i] = e
					isSafe(t, call(op, kids...), false)
					kids[i] = call(api.OpIsNull, call(api.OpCoalesce, col(1), e))
					isSafe(t, call(op, kids...), false)
					kids[i] = call(api.OpIsNull, call(api.OpCoalesce, col(1), col(2)))
					isSafe(t, call(op, kids...), true)
				}
			}
		}
		for _, op := range []int{api.OpNeg, api.OpAdd, api.OpSub, api.OpMul, api.OpDiv, api.OpAbs, api.OpDec} {
			isSafe(t, call(op, lit(yes), lit(yes)), false)
			isSafe(t, call(op, e), false)
		}
	}
}

// P9.3: what is safe has a value on all rows, or values of types that do not fit.
func TestSafeHasValues(t *testing.T) {
	found := map[bool]int{}
	for seed := range uint64(20000) {
		m := &maker{by: lot(seed + 1<<37)}
		e := m.condition(3, 1+int(seed%5))
		safe := flat.Safe(e)
		found[safe]++
		for range 5 {
			r := someRow(m.by, 3, 1).Row
			if _, bad := eval.Value(e, []api.Row{r}); safe && bad != api.OK && bad != api.ErrType {
				t.Fatalf("%s on %v: error %d", describe(mapped(listed(3), e)), r, bad)
			}
		}
	}
	if found[true] < 2000 || found[false] < 2000 {
		t.Errorf("%v", found)
	}
}

// R1: within one another, as many as there may be.
func TestSafeDeep(t *testing.T) {
	for _, e := range []api.Expr{lit(yes), wrong(), {}} {
		want := e.Kind == api.ELit
		for range 1<<16 - 3 {
			e = call(api.OpAnd, lit(no), e)
		}
		isSafe(t, e, want)
	}
}
