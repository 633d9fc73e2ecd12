package lower

import "freshet/api"

// found is what is found of a subquery on rows: of each combination of the columns on which it hangs these, once, and behind them its value; and which columns these are.
func (l *lowering) found(e api.Expr, s scope) (api.Flat, []int) {
	sub := at(e.Subs, 0)
	switch e.Kind {
	case api.EExists:
		return l.under(s, sub, nil, l.exists)
	case api.EScalar:
		return l.under(s, sub, []int{0}, func(list api.Flat, o scope) api.Flat { return l.scalar(list, o, e.Type) })
	case api.EIn:
		return l.in(at(e.Kids, 0), sub, s)
	}
	panic(tooLong)
}

// under lowers a query that stands on rows: once for each combination of the columns for which it asks. use is told its plan, and what lies outside of it; what that makes of them is answered, and the columns.
func (l *lowering) under(s scope, r api.Rel, asked []int, use func(list api.Flat, o scope) api.Flat) (api.Flat, []int) {
	keys := outer(r, s)
	each := l.distinct(l.columns(s.rows(), s.width, keys))
	return l.let(each, len(keys), func(again func() api.Flat) api.Flat {
		o := scope{rows: again, width: len(keys), place: among(keys, s.place)}
		return use(l.bind(l.query(r, o, asked), o).plan, o)
	}), keys
}

// outer are the places of the columns for which a query asks that stands on rows.
func outer(r api.Rel, s scope) []int {
	var l []int
	asksOf(r, 1, func(level, col int) { l = append(l, s.place(level, col)) })
	return rising(l)
}

// among tells where a column stands, as place does, of rows of which just some columns are left.
func among(left []int, place func(level, col int) int) func(level, col int) int {
	return func(level, col int) int { return placeIn(left, place(level, col)) }
}

// exists has TRUE behind the rows of OUTER for which there is a row, FALSE behind the others.
func (l *lowering) exists(list api.Flat, o scope) api.Flat {
	return l.let(l.distinct(list), o.width, func(there func() api.Flat) api.Flat {
		return l.union(l.mapped(there(), truth(1)), l.mapped(l.less(o.rows(), there()), truth(0)))
	})
}

// scalar has the only value behind the rows of OUTER for which there is one, NULL behind the others.
func (l *lowering) scalar(list api.Flat, o scope, kind int) api.Flat {
	return l.let(list, o.width+1, func(list func() api.Flat) api.Flat {
		there := l.columns(list(), o.width+1, upTo(o.width)) // once each, if nothing is an error
		only := l.node(api.Flat{Kind: api.FOne, Cols: upTo(o.width), Kids: []api.Flat{list()}})
		return l.union(only, l.mapped(l.less(o.rows(), there), null(kind)))
	})
}
