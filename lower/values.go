package lower

import (
	"slices"
	"strings"

	"freshet/api"
)

// valued puts the values of expressions behind the rows, but of those that stand there already, and tells the places of all.
func (l *lowering) valued(r rows, exprs []api.Expr) (rows, []int) {
	r, flats := l.flatten(r, exprs)
	var places []int
	var more []api.Expr
	for _, e := range flats {
		if e.Kind == api.ECol {
			places = append(places, e.Col)
			continue
		}
		places = append(places, r.width+len(more))
		more = append(more, e)
	}
	r.plan = l.mapped(r.plan, more...)
	r.width += len(more)
	return r, places
}

// flatten answers expressions on rows without their subqueries: what is found of these stands behind the rows, a column each.
func (l *lowering) flatten(r rows, exprs []api.Expr) (rows, []api.Expr) {
	if !slices.ContainsFunc(exprs, nests) {
		return r, flatAll(exprs, r.place, nil)
	}
	var flats []api.Expr
	width := r.width
	plan := l.let(r.plan, r.width, func(again func() api.Flat) api.Flat {
		with := again()
		flats = flatAll(exprs, r.place, func(e api.Expr) api.Expr {
			found, keys := l.found(e, r.again(again))
			with = l.pairs(with, width, found, 1, keys)
			width++
			return column(width-1, e.Type, e.Null)
		})
		return with
	})
	return rows{plan, width, r.place}, flats
}

// flatAll are expressions whose columns are told by their places, and in which each subquery, from the left, is what pick answers of it.
func flatAll(l []api.Expr, place func(level, col int) int, pick func(api.Expr) api.Expr) []api.Expr {
	var flats []api.Expr
	for _, e := range l {
		flats = append(flats, flatOf(e, place, pick))
	}
	return flats
}

func flatOf(e api.Expr, place func(level, col int) int, pick func(api.Expr) api.Expr) api.Expr {
	switch e.Kind {
	case api.ELit:
		return api.Expr{Kind: api.ELit, Type: e.Type, Null: e.Null, Lit: api.Datum{Kind: e.Lit.Kind, I: e.Lit.I, S: strings.Clone(e.Lit.S)}}
	case api.ECol:
		return column(place(e.Level, e.Col), e.Type, e.Null)
	case api.ECall:
		return api.Expr{Kind: api.ECall, Type: e.Type, Null: e.Null, Op: e.Op, Kids: flatAll(e.Kids, place, pick)}
	}
	return pick(e)
}

// value is an expression that is a value of a type.
func value(d api.Datum, kind int) api.Expr {
	return api.Expr{Kind: api.ELit, Type: kind, Null: d.Kind == api.Null, Lit: d}
}

func truth(n int64) api.Expr {
	return value(api.Datum{Kind: api.Bool, I: n}, api.Bool)
}

func null(kind int) api.Expr {
	return value(api.Datum{}, kind)
}

func column(place, kind int, mayBeNull bool) api.Expr {
	return api.Expr{Kind: api.ECol, Type: kind, Null: mayBeNull, Col: place}
}

func isNull(e api.Expr) api.Expr {
	return api.Expr{Kind: api.ECall, Type: api.Bool, Op: api.OpIsNull, Kids: []api.Expr{e}}
}
