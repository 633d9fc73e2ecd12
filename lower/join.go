package lower

import (
	"slices"

	"freshet/api"
)

// join lowers an RJoin.
func (l *lowering) join(r api.Rel, o scope, asked []int) part {
	left, right := at(r.Kids, 0), at(r.Kids, 1)
	here, there := split(rising(asked, own(r.Exprs)), len(left.Cols))
	if r.Lateral {
		here = rising(here, nearest(right))
	}
	p, beside := l.besides(r, o, l.query(left, o, here), there)
	both := part{bound: p.bound, ahead: p.ahead, cols: slices.Concat(here, moved(there, len(left.Cols)))}
	body := func(again func() api.Flat) api.Flat {
		list, keys := beside(again)
		both.plan = l.pairs(again(), p.width(), list, len(there), keys)
		both = l.kept(both, o, at(r.Exprs, 0))
		if r.Flag {
			return l.withLost(both, again, p.width(), nulls(right.Cols, there))
		}
		return both.plan
	}
	if r.Lateral || r.Flag {
		both.plan = l.let(p.plan, p.width(), body)
	} else {
		both.plan = body(func() api.Flat { return p.plan }) // it is asked for just once
	}
	return l.cut(both, asked)
}

// split takes apart which of a join's columns are the left side's, which has so many, and which the right one's.
func split(cols []int, many int) ([]int, []int) {
	first, _ := slices.BinarySearch(cols, many)
	return cols[:first], moved(cols[first:], -many)
}

// nearest are the columns for which a query asks of the scope in which it stands.
func nearest(r api.Rel) []int {
	var cols []int
	asksOf(r, 1, func(level, col int) {
		if level == 0 {
			cols = append(cols, col)
		}
	})
	return cols
}

// besides answers the left side of a join, bound if need be, and what lowers the right side: to a plan, and where in the left one the columns stand with which that begins.
func (l *lowering) besides(r api.Rel, o scope, p part, asked []int) (part, func(again func() api.Flat) (api.Flat, []int)) {
	right := at(r.Kids, 1)
	if r.Lateral {
		p = l.bind(p, o) // as the right side is meant within its rows, which have to be there
		return p, func(again func() api.Flat) (api.Flat, []int) {
			return l.under(rowsOf(p, o).again(again), right, asked, func(list api.Flat, _ scope) api.Flat { return list })
		}
	}
	q := l.query(right, o, asked)
	if q.bound {
		p = l.bind(p, o)
	}
	return l.ready(p, o, r.Exprs), func(func() api.Flat) (api.Flat, []int) { return q.plan, upTo(q.ahead) }
}

// pairs has behind rows those of another plan which begin with the values that stand at some of their places: the others of their values, so many.
func (l *lowering) pairs(left api.Flat, width int, right api.Flat, more int, keys []int) api.Flat {
	places := append(upTo(width), moved(upTo(more), width+len(keys))...)
	return l.columns(l.joined(left, right, keys, upTo(len(keys))), width+len(keys)+more, places)
}

// withLost has besides the pairs the rows of the left side that found none, with NULLs behind them.
func (l *lowering) withLost(both part, again func() api.Flat, width int, nulls []api.Expr) api.Flat {
	return l.let(both.plan, both.width(), func(pairs func() api.Flat) api.Flat {
		some := l.distinct(l.columns(pairs(), both.width(), upTo(width)))
		lost := l.less(again(), l.pairs(again(), width, some, 0, upTo(width)))
		return l.union(pairs(), l.mapped(lost, nulls...))
	})
}

// nulls are NULLs of some columns' types.
func nulls(cols []api.Col, places []int) []api.Expr {
	var l []api.Expr
	for _, place := range places {
		l = append(l, null(at(cols, place).Type))
	}
	return l
}
