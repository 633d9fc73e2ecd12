package plan

import (
	"slices"

	"freshet/api"
)

func (c checker) call(f call, in *scope) (api.Expr, api.Errno) {
	switch f.name {
	case "count", "sum", "min", "max":
		return c.aggregate(f, in)
	case "coalesce":
		return c.coalesce(f, in)
	case "length", "abs":
		return c.function(f, in)
	}
	return api.Expr{}, api.ErrFunc
}

func isAggregate(a api.Ast) bool {
	f, is := expressionOf(a).(call)
	return is && slices.Contains([]string{"count", "sum", "min", "max"}, f.name)
}

func isSubquery(a api.Ast) bool {
	switch expressionOf(a).(type) {
	case membership, existence, scalar:
		return true
	}
	return false
}

// somewhere tells whether something is so of an expression, or of one that it is made of; what stands in a subquery does not count.
func somewhere(a api.Ast, is func(api.Ast) bool) bool {
	return is(a) || slices.ContainsFunc(operands(a), func(kid api.Ast) bool { return somewhere(kid, is) })
}

// operands are the expressions of which one is made.
func operands(a api.Ast) []api.Ast {
	switch e := expressionOf(a).(type) {
	case operation:
		return e.kids
	case nullTest:
		return []api.Ast{e.kid}
	case choice:
		return e.kids
	case membership:
		return []api.Ast{e.kid}
	case call:
		return e.kids
	}
	return nil
}

func (c checker) aggregate(f call, in *scope) (api.Expr, api.Errno) {
	switch {
	case in.groups == nil:
		return api.Expr{}, api.ErrAgg
	case f.star && f.name == "count":
		return in.aggregate(api.Agg{Fn: api.AggRows, Type: api.Int}), api.OK
	case len(f.kids) != 1:
		return api.Expr{}, api.ErrFunc
	case somewhere(f.kids[0], isAggregate), somewhere(f.kids[0], isSubquery):
		return api.Expr{}, api.ErrAgg
	}
	e, bad := c.expression(f.kids[0], in.rows())
	if bad != api.OK {
		return api.Expr{}, bad
	}
	agg, bad := aggregateOf(f.name, e)
	if bad != api.OK {
		return api.Expr{}, bad
	}
	return in.aggregate(agg), api.OK
}

func aggregateOf(name string, e api.Expr) (api.Agg, api.Errno) {
	agg := api.Agg{Type: e.Type, Args: []api.Expr{e}}
	switch {
	case name == "count":
		agg.Fn, agg.Type = api.AggCount, api.Int
	case name == "sum" && isNumber(e.Type):
		agg.Fn = api.AggSum
	case name == "min" && e.Type != api.Null:
		agg.Fn = api.AggMin
	case name == "max" && e.Type != api.Null:
		agg.Fn = api.AggMax
	default:
		return api.Agg{}, api.ErrType
	}
	return agg, api.OK
}

func (c checker) coalesce(f call, in *scope) (api.Expr, api.Errno) {
	if len(f.kids) == 0 {
		return api.Expr{}, api.ErrFunc
	}
	kids, bad := each(f.kids, in, c.expression)
	if bad != api.OK {
		return api.Expr{}, bad
	}
	values := make([]int, len(kids))
	for i := range values {
		values[i] = i
	}
	kind, bad := alike(kids, values)
	if bad != api.OK {
		return api.Expr{}, bad
	}
	e := operated(api.OpCoalesce, kind, kids...)
	e.Null = !slices.ContainsFunc(kids, func(kid api.Expr) bool { return !kid.Null })
	return e, api.OK
}

// function is what a function of one argument makes.
func (c checker) function(f call, in *scope) (api.Expr, api.Errno) {
	kids, bad := each(f.kids, in, c.expression)
	switch {
	case bad != api.OK:
		return api.Expr{}, bad
	case len(kids) != 1:
		return api.Expr{}, api.ErrFunc
	}
	kind := kids[0].Type
	switch {
	case f.name == "abs" && isNumber(kind):
		return operated(api.OpAbs, kind, kids...), api.OK
	case f.name == "length" && (kind == api.Text || kind == api.Bytes || kind == api.Null):
		return operated(api.OpLength, api.Int, kids...), api.OK
	}
	return api.Expr{}, api.ErrType
}
