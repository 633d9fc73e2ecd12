package plan

import "freshet/api"

func (c checker) query(a api.Ast, outer *scope) (api.Rel, api.Errno) {
	switch q := queryOf(a).(type) {
	case beginning:
		return c.beginning(q, outer)
	case combination:
		return c.combination(q, outer)
	case selection:
		return c.selection(q, outer)
	}
	return api.Rel{}, api.ErrAst
}

func (c checker) beginning(q beginning, outer *scope) (api.Rel, api.Errno) {
	r, bad := c.query(q.query, outer)
	if bad != api.OK {
		return api.Rel{}, bad
	}
	top := api.Rel{Kind: api.RTop, Cols: r.Cols, Kids: []api.Rel{r}, Limit: q.limit}
	in := scope{columns: sourced("", r.Cols)}
	for _, key := range q.keys {
		place, bad := in.place(reference{name: key.Name})
		if bad != api.OK {
			return api.Rel{}, bad
		}
		top.Nums, top.Desc = append(top.Nums, place), append(top.Desc, key.Flag)
	}
	return top, api.OK
}

func (c checker) combination(q combination, outer *scope) (api.Rel, api.Errno) {
	left, bad := c.query(q.left, outer)
	if bad != api.OK {
		return api.Rel{}, bad
	}
	right, bad := c.query(q.right, outer)
	if bad != api.OK {
		return api.Rel{}, bad
	}
	if len(left.Cols) != len(right.Cols) {
		return api.Rel{}, api.ErrColumns
	}
	for i, col := range left.Cols {
		if col.Type != right.Cols[i].Type {
			return api.Rel{}, api.ErrType
		}
	}
	if q.how == setUnion {
		return united(left, right, q.all), api.OK
	}
	if !q.all {
		left, right = distinct(left), distinct(right)
	}
	r := api.Rel{Kind: api.RInter, Cols: left.Cols, Kids: []api.Rel{left, right}}
	if q.how == setExcept {
		r.Kind = api.RExcept
	}
	return r, api.OK
}

func united(left, right api.Rel, all bool) api.Rel {
	cols := make([]api.Col, len(left.Cols))
	for i, col := range left.Cols {
		col.Null = col.Null || right.Cols[i].Null
		cols[i] = col
	}
	r := api.Rel{Kind: api.RUnion, Cols: cols, Kids: []api.Rel{left, right}}
	if all {
		return r
	}
	return distinct(r)
}

func distinct(r api.Rel) api.Rel {
	return api.Rel{Kind: api.RDistinct, Cols: r.Cols, Kids: []api.Rel{r}}
}
