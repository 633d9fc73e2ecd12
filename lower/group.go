package lower

import (
	"slices"

	"freshet/api"
)

// group lowers an RGroup: to all of its columns, as what stands in any of them is evaluated.
func (l *lowering) group(r api.Rel, o scope) part {
	exprs := slices.Clone(r.Exprs)
	for _, a := range r.Aggs {
		if a.Fn != api.AggRows {
			exprs = append(exprs, at(a.Args, 0))
		}
	}
	p := l.ready(l.query(at(r.Kids, 0), o, own(exprs)), o, exprs)
	if slices.ContainsFunc(r.Aggs, func(a api.Agg) bool { return a.Fn == api.AggSum }) {
		p = l.bind(p, o) // as it might have no room
	}
	v, places := l.valued(rowsOf(p, o), exprs)
	keys, args := places[:len(r.Exprs)], places[len(r.Exprs):]
	p.plan = l.node(api.Flat{Kind: api.FReduce, Cols: slices.Concat(upTo(p.ahead), keys), Aggs: folds(r.Aggs, args), Kids: []api.Flat{v.plan}})
	p.cols = upTo(len(r.Exprs) + len(r.Aggs))
	if r.Flag {
		p.plan = l.withEmpty(p, o, r)
	}
	return p
}

// folds are aggregates of columns at some places.
func folds(l []api.Agg, places []int) []api.Fold {
	var folds []api.Fold
	for _, a := range l {
		f := api.Fold{Fn: a.Fn}
		if a.Fn != api.AggRows {
			f.Col, places = places[0], places[1:]
		}
		folds = append(folds, f)
	}
	return folds
}

// withEmpty has besides the groups a row for each row of OUTER that has none: the aggregates of no rows.
func (l *lowering) withEmpty(p part, o scope, r api.Rel) api.Flat {
	var none []api.Expr
	for _, e := range r.Exprs {
		none = append(none, null(e.Type))
	}
	for _, a := range r.Aggs {
		none = append(none, ofNothing(a))
	}
	each := l.one
	if p.bound {
		each = o.rows
	}
	return l.let(p.plan, p.width(), func(groups func() api.Flat) api.Flat {
		there := l.columns(groups(), p.width(), upTo(p.ahead))
		return l.union(groups(), l.mapped(l.less(each(), there), none...))
	})
}

// ofNothing is an aggregate of no rows.
func ofNothing(a api.Agg) api.Expr {
	if a.Fn == api.AggRows || a.Fn == api.AggCount {
		return value(api.Datum{Kind: api.Int}, api.Int)
	}
	return null(a.Type)
}
