package plan

import (
	"slices"

	"freshet/api"
)

func (c checker) expression(a api.Ast, in *scope) (api.Expr, api.Errno) {
	switch e := expressionOf(a).(type) {
	case literal:
		return api.Expr{Kind: api.ELit, Type: e.value.Kind, Null: e.value.Kind == api.Null, Lit: e.value}, api.OK
	case reference:
		return in.find(e)
	case operation:
		return c.operation(e, in)
	case nullTest:
		return c.nullTest(e, in)
	case choice:
		return c.choice(e, in)
	case membership:
		return c.membership(e, in)
	case existence:
		r, bad := c.query(e.query, in)
		return api.Expr{Kind: api.EExists, Type: api.Bool, Subs: []api.Rel{r}}, bad
	case scalar:
		return c.scalar(e, in)
	case call:
		return c.call(e, in)
	}
	return api.Expr{}, api.ErrAst
}

// condition is an expression that must be true, false or not known.
func (c checker) condition(a api.Ast, in *scope) (api.Expr, api.Errno) {
	e, bad := c.expression(a, in)
	if bad == api.OK && !fit(e.Type, api.Bool) {
		bad = api.ErrType
	}
	return e, bad
}

// each looks at expressions in a way, from the left.
func each(l []api.Ast, in *scope, look func(api.Ast, *scope) (api.Expr, api.Errno)) ([]api.Expr, api.Errno) {
	kids := make([]api.Expr, len(l))
	for i, a := range l {
		e, bad := look(a, in)
		if bad != api.OK {
			return nil, bad
		}
		kids[i] = e
	}
	return kids, api.OK
}

// operated is what an operator makes, that may be NULL if something may of which it makes it.
func operated(op, kind int, kids ...api.Expr) api.Expr {
	return api.Expr{Kind: api.ECall, Type: kind, Null: slices.ContainsFunc(kids, isNullable), Op: op, Kids: kids}
}

func isNullable(e api.Expr) bool {
	return e.Null
}

func (c checker) operation(o operation, in *scope) (api.Expr, api.Errno) {
	switch o.op {
	case api.OpNot, api.OpAnd, api.OpOr:
		kids, bad := each(o.kids, in, c.condition)
		return operated(o.op, api.Bool, kids...), bad
	}
	kids, bad := each(o.kids, in, c.expression)
	if bad != api.OK {
		return api.Expr{}, bad
	}
	kind, bad := common(kids)
	switch {
	case bad != api.OK:
		return api.Expr{}, bad
	case api.OpEq <= o.op && o.op <= api.OpGe:
		kind = api.Bool
	case !isNumber(kind):
		return api.Expr{}, api.ErrType
	}
	return operated(o.op, kind, kids...), api.OK
}

func (c checker) nullTest(n nullTest, in *scope) (api.Expr, api.Errno) {
	kid, bad := c.expression(n.kid, in)
	if bad != api.OK {
		return api.Expr{}, bad
	}
	e := operated(api.OpIsNull, api.Bool, kid)
	e.Null = false
	return negatedIf(n.not, e), api.OK
}

func negatedIf(not bool, e api.Expr) api.Expr {
	if not {
		return operated(api.OpNot, api.Bool, e)
	}
	return e
}

// choice is a CASE: with each second one a value, and the last one, too, if it stands alone.
func (c checker) choice(o choice, in *scope) (api.Expr, api.Errno) {
	var values []int
	kids := make([]api.Expr, len(o.kids))
	for i, a := range o.kids {
		look := c.condition
		if i%2 == 1 || i == len(o.kids)-1 {
			look, values = c.expression, append(values, i)
		}
		e, bad := look(a, in)
		if bad != api.OK {
			return api.Expr{}, bad
		}
		kids[i] = e
	}
	kind, bad := alike(kids, values)
	if bad != api.OK {
		return api.Expr{}, bad
	}
	e := operated(api.OpCase, kind, kids...)
	e.Null = len(kids)%2 == 0 || slices.ContainsFunc(values, func(i int) bool { return kids[i].Null })
	return e, api.OK
}

func (c checker) membership(m membership, in *scope) (api.Expr, api.Errno) {
	kid, bad := c.expression(m.kid, in)
	if bad != api.OK {
		return api.Expr{}, bad
	}
	r, bad := c.single(m.query, in)
	switch {
	case bad != api.OK:
		return api.Expr{}, bad
	case !fit(kid.Type, r.Cols[0].Type):
		return api.Expr{}, api.ErrType
	}
	return negatedIf(m.not, api.Expr{Kind: api.EIn, Type: api.Bool, Null: true, Kids: []api.Expr{kid}, Subs: []api.Rel{r}}), api.OK
}

func (c checker) scalar(s scalar, in *scope) (api.Expr, api.Errno) {
	r, bad := c.single(s.query, in)
	if bad != api.OK {
		return api.Expr{}, bad
	}
	return api.Expr{Kind: api.EScalar, Type: r.Cols[0].Type, Null: true, Subs: []api.Rel{r}}, api.OK
}

// single is a query that must have one column.
func (c checker) single(a api.Ast, in *scope) (api.Rel, api.Errno) {
	r, bad := c.query(a, in)
	if bad == api.OK && len(r.Cols) != 1 {
		bad = api.ErrColumns
	}
	return r, bad
}
