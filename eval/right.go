package eval

import (
	"slices"

	"freshet/api"
	"freshet/datum"
)

// mayBe tells whether an expression may be, and each of its columns has a value that may be.
func mayBe(e api.Expr, env []api.Row) bool {
	switch e.Kind {
	case api.ELit:
		return datum.Right(e.Lit)
	case api.ECol:
		return isThere(e, env) && datum.Right(env[e.Level][e.Col])
	case api.ECall:
		return takes(e.Op, len(e.Kids)) && !slices.ContainsFunc(e.Kids, func(kid api.Expr) bool { return !mayBe(kid, env) })
	}
	return isSubquery(e)
}

// isThere tells whether a column has a value.
func isThere(e api.Expr, env []api.Row) bool {
	return 0 <= e.Level && e.Level < len(env) && 0 <= e.Col && e.Col < len(env[e.Level])
}

// takes tells whether an operator has so many kids.
func takes(op, n int) bool {
	var nulls [2]api.Datum // no operator of datum.Apply has more arguments, and of NULLs as many as it has are all that it asks for
	switch {
	case op == api.OpCase:
		return n >= 2
	case op == api.OpCoalesce:
		return n >= 1
	case n > len(nulls):
		return false
	}
	_, bad := datum.Apply(op, nulls[:n]...)
	return bad == api.OK
}

func allRight(l []api.Datum) bool {
	return !slices.ContainsFunc(l, func(d api.Datum) bool { return !datum.Right(d) })
}

func isSubquery(e api.Expr) bool {
	return e.Kind == api.EExists || e.Kind == api.EScalar || e.Kind == api.EIn
}

// subqueries is how many there are in some expressions; what stands in one of them does not count.
func subqueries(l ...api.Expr) int {
	n := 0
	for _, e := range l {
		switch {
		case isSubquery(e):
			n++
		case e.Kind == api.ECall:
			n += subqueries(e.Kids...)
		}
	}
	return n
}
