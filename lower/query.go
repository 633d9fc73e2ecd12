package lower

import (
	"slices"

	"freshet/api"
	"freshet/flat"
)

// query lowers a query within OUTER's rows: to a part of those of its columns that are asked for.
func (l *lowering) query(r api.Rel, o scope, asked []int) part {
	switch r.Kind {
	case api.RGet:
		plan := l.get(r.Name, len(r.Cols))
		return part{l.columns(plan, len(r.Cols), asked), o.sole, 0, asked}
	case api.ROne:
		return l.cut(part{l.one(), o.sole, 0, nil}, asked)
	case api.RFilter:
		p := l.query(at(r.Kids, 0), o, rising(asked, own(r.Exprs)))
		return l.cut(l.kept(p, o, at(r.Exprs, 0)), asked)
	case api.RMap:
		return l.items(r, o, asked)
	case api.RJoin:
		return l.join(r, o, asked)
	case api.RGroup:
		return l.cut(l.group(r, o), asked)
	case api.RDistinct:
		p := l.query(at(r.Kids, 0), o, every(r))
		p.plan = l.distinct(p.plan)
		return l.cut(p, asked)
	case api.RUnion:
		a, b := l.sides(r, o, asked)
		a.plan = l.union(a.plan, b.plan)
		return a
	case api.RExcept:
		a, b := l.sides(r, o, every(r))
		a.plan = l.over(api.FPos, l.less(a.plan, b.plan))
		return l.cut(a, asked)
	case api.RInter:
		return l.cut(l.common(l.sides(r, o, every(r))), asked)
	case api.RTop:
		return l.cut(l.top(r, o), asked)
	}
	panic(tooLong)
}

// every are the places of all columns of a query.
func every(r api.Rel) []int {
	return upTo(len(r.Cols))
}

// kept are the rows of a part on which an expression is TRUE.
func (l *lowering) kept(p part, o scope, e api.Expr) part {
	if e.Kind == api.ELit && e.Lit == (api.Datum{Kind: api.Bool, I: 1}) {
		return p
	}
	p = l.ready(p, o, []api.Expr{e})
	r, flats := l.flatten(rowsOf(p, o), []api.Expr{e})
	p.plan = l.columns(l.filtered(r.plan, flats[0]), r.width, upTo(p.width()))
	return p
}

// items lowers an RMap. What is not asked for is evaluated, too, unless it always has a value.
func (l *lowering) items(r api.Rel, o scope, asked []int) part {
	var exprs []api.Expr
	var cols []int
	for i, e := range r.Exprs {
		if slices.Contains(asked, i) || !flat.Safe(e) {
			exprs, cols = append(exprs, e), append(cols, i)
		}
	}
	p := l.ready(l.query(at(r.Kids, 0), o, own(exprs)), o, exprs)
	v, places := l.valued(rowsOf(p, o), exprs)
	p.plan, p.cols = l.columns(v.plan, v.width, append(upTo(p.ahead), places...)), cols
	return l.cut(p, asked)
}

// sides are the parts of a query's two Kids, both bound, or none of them.
func (l *lowering) sides(r api.Rel, o scope, asked []int) (part, part) {
	a, b := l.query(at(r.Kids, 0), o, asked), l.query(at(r.Kids, 1), o, asked)
	if a.bound || b.bound {
		return l.bind(a, o), l.bind(b, o)
	}
	return a, b
}

// common has each row as often as that one of two parts that has it less often: what one has less what it has more than the other.
func (l *lowering) common(a, b part) part {
	a.plan = l.let(a.plan, a.width(), func(again func() api.Flat) api.Flat {
		return l.less(again(), l.over(api.FPos, l.less(again(), b.plan)))
	})
	return a
}

func (l *lowering) top(r api.Rel, o scope) part {
	p := l.query(at(r.Kids, 0), o, every(r))
	p.plan = l.node(api.Flat{Kind: api.FTop, Cols: upTo(p.ahead), More: moved(r.Nums, p.ahead), Desc: slices.Clone(r.Desc), Limit: r.Limit, Kids: []api.Flat{p.plan}})
	return p
}
