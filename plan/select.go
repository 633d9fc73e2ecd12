package plan

import (
	"slices"
	"strconv"

	"freshet/api"
)

// selection is a SELECT.
func (c checker) selection(q selection, outer *scope) (api.Rel, api.Errno) {
	f := from{checker: c, outer: outer}
	p, bad := f.all(q.from)
	if bad != api.OK {
		return api.Rel{}, bad
	}
	in := &scope{scope: outer, columns: p.columns}
	where, bad := each(q.where, in, c.condition)
	if bad != api.OK {
		return api.Rel{}, bad
	}
	if q.isGrouped() {
		if in.groups, bad = in.grouping(q.group); bad != api.OK {
			return api.Rel{}, bad
		}
	}
	m, bad := c.items(q.items, in)
	if bad != api.OK {
		return api.Rel{}, bad
	}
	having, bad := each(q.having, in, c.condition)
	if bad != api.OK {
		return api.Rel{}, bad
	}
	r := filtered(p.rel, where)
	if in.groups != nil {
		r = filtered(in.grouped(r), having)
	}
	m.Kids = []api.Rel{r}
	if q.distinct {
		m = distinct(m)
	}
	return m, api.OK
}

// filtered are the rows of which a condition is true, if there is one.
func filtered(r api.Rel, condition []api.Expr) api.Rel {
	if len(condition) == 0 {
		return r
	}
	return api.Rel{Kind: api.RFilter, Cols: r.Cols, Exprs: condition, Kids: []api.Rel{r}}
}

func (q selection) isGrouped() bool {
	return len(q.group) > 0 || len(q.having) > 0 || slices.ContainsFunc(q.items, func(a api.Ast) bool {
		i, is := itemOf(a).(item)
		return is && somewhere(i.kid, isAggregate)
	})
}

// grouping are the groups by some of a scope's columns.
func (s *scope) grouping(l []api.Ast) (*groups, api.Errno) {
	g := &groups{}
	for _, a := range l {
		place, bad := s.place(reference{a.Alias, a.Name})
		if bad != api.OK {
			return nil, bad
		}
		g.keys = append(g.keys, place)
	}
	return g, api.OK
}

// grouped are the groups of rows, when all aggregates of them are known.
func (s *scope) grouped(r api.Rel) api.Rel {
	g := api.Rel{Kind: api.RGroup, Aggs: s.groups.aggs, Kids: []api.Rel{r}, Flag: len(s.groups.keys) == 0}
	for _, place := range s.groups.keys {
		col := s.columns[place].Col
		g.Cols = append(g.Cols, col)
		g.Exprs = append(g.Exprs, columnOf(col, 0, place))
	}
	for _, agg := range s.groups.aggs {
		g.Cols = append(g.Cols, colOf(agg))
	}
	return g
}

// items are the columns that come out of a SELECT, and of what.
func (c checker) items(l []api.Ast, in *scope) (api.Rel, api.Errno) {
	m := api.Rel{Kind: api.RMap}
	for _, a := range l {
		bad := api.OK
		switch i := itemOf(a).(type) {
		case star:
			bad = in.allColumns(&m)
		case item:
			bad = c.item(i, in, &m)
		}
		if bad != api.OK {
			return api.Rel{}, bad
		}
	}
	if len(m.Cols) > api.MaxCols {
		return api.Rel{}, api.ErrLong
	}
	return m, api.OK
}

// allColumns has a star's columns come out.
func (s *scope) allColumns(m *api.Rel) api.Errno {
	if len(s.columns) == 0 {
		return api.ErrColumns
	}
	for place, col := range s.columns {
		e, bad := s.at(place, 0)
		if bad != api.OK {
			return bad
		}
		comeOut(m, col.Name, e)
	}
	return api.OK
}

func (c checker) item(i item, in *scope, m *api.Rel) api.Errno {
	e, bad := c.expression(i.kid, in)
	switch {
	case bad != api.OK:
		return bad
	case e.Type == api.Null:
		return api.ErrType
	}
	comeOut(m, i.nameAt(len(m.Cols)+1), e)
	return api.OK
}

// nameAt is what an item at a place, from 1 on, is called.
func (i item) nameAt(place int) string {
	if i.name != "" {
		return i.name
	}
	if r, is := expressionOf(i.kid).(reference); is {
		return r.name
	}
	return "c" + strconv.Itoa(place)
}

// comeOut puts a column behind those that come out. Of too many one is kept, by which they are known to be too many: there can be millions.
func comeOut(m *api.Rel, name string, e api.Expr) {
	if len(m.Cols) > api.MaxCols {
		return
	}
	m.Cols = append(m.Cols, api.Col{Name: name, Type: e.Type, Null: e.Null})
	m.Exprs = append(m.Exprs, e)
}
