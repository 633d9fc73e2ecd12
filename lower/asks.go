package lower

import (
	"slices"

	"freshet/api"
	"freshet/flat"
)

// asks tells ask each column that an expression asks for of the scope that lies outside of so many others, which are its own (level 0), and of those further out.
func asks(e api.Expr, within int, ask func(level, col int)) {
	if e.Kind == api.ECol && e.Level >= within {
		ask(e.Level-within, e.Col)
	}
	for _, kid := range e.Kids {
		asks(kid, within, ask)
	}
	for _, sub := range e.Subs {
		asksOf(sub, within+1, ask)
	}
}

// asksOf does so for a query, whose own expressions' scope counts as one of the others.
func asksOf(r api.Rel, within int, ask func(level, col int)) {
	for _, e := range r.Exprs {
		asks(e, within, ask)
	}
	for _, a := range r.Aggs {
		for _, e := range a.Args {
			asks(e, within, ask)
		}
	}
	for i, kid := range r.Kids {
		if r.Lateral && i == 1 {
			asksOf(kid, within+1, ask)
		} else {
			asksOf(kid, within, ask)
		}
	}
}

// own are the columns of their own row for which expressions ask.
func own(l []api.Expr) []int {
	var cols []int
	for _, e := range l {
		asks(e, 0, func(level, col int) {
			if level == 0 {
				cols = append(cols, col)
			}
		})
	}
	return rising(cols)
}

// apart tells whether an expression hangs on its own row alone, and always has a value.
func apart(e api.Expr) bool {
	is := flat.Safe(e)
	asks(e, 0, func(level, _ int) { is = is && level == 0 })
	return is
}

// nests tells whether a subquery is in an expression.
func nests(e api.Expr) bool {
	switch e.Kind {
	case api.ELit, api.ECol:
		return false
	case api.ECall:
		return slices.ContainsFunc(e.Kids, nests)
	}
	return true
}
