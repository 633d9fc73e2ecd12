package plan

import (
	"slices"

	"freshet/api"
	"freshet/datum"
)

func (c checker) statement(a api.Ast) (api.Checked, api.Errno) {
	switch s := statementOf(a).(type) {
	case tableMaking:
		return c.makeTable(s)
	case viewMaking:
		return c.makeView(s)
	case indexMaking:
		return c.makeIndex(s)
	case dropping:
		return c.drop(s)
	case insertion:
		return c.insert(s)
	case deletion:
		return c.remove(s)
	case subscription:
		return asks(c.get(s.to))
	}
	return asks(c.query(a, nil))
}

// asks is the statement that is asked by a query; or its error.
func asks(r api.Rel, bad api.Errno) (api.Checked, api.Errno) {
	return api.Checked{Cols: r.Cols, Rel: r}, bad
}

func (c checker) makeTable(s tableMaking) (api.Checked, api.Errno) {
	if bad := c.unused(s.name); bad != api.OK {
		return api.Checked{}, bad
	}
	if len(s.columns) > api.MaxCols {
		return api.Checked{}, api.ErrLong
	}
	cols := make([]api.Col, len(s.columns))
	for i, a := range s.columns {
		cols[i] = api.Col{Name: a.Name, Type: a.Num, Null: !a.Flag}
	}
	if haveTwice(cols) {
		return api.Checked{}, api.ErrTwice
	}
	return api.Checked{Cols: cols}, api.OK
}

func (c checker) makeView(s viewMaking) (api.Checked, api.Errno) {
	if bad := c.unused(s.name); bad != api.OK {
		return api.Checked{}, bad
	}
	r, bad := c.query(s.query, nil)
	if bad == api.OK && haveTwice(r.Cols) {
		bad = api.ErrTwice
	}
	return asks(r, bad)
}

func (c checker) makeIndex(s indexMaking) (api.Checked, api.Errno) {
	if bad := c.unused(s.name); bad != api.OK {
		return api.Checked{}, bad
	}
	r, bad := c.get(s.of)
	if bad != api.OK {
		return api.Checked{}, bad
	}
	made := api.Checked{Of: s.of}
	for _, a := range s.columns {
		place := slices.IndexFunc(r.Cols, func(col api.Col) bool { return col.Name == a.Name })
		if place < 0 {
			return api.Checked{}, api.ErrColumn
		}
		if slices.Contains(made.Places, place) {
			return api.Checked{}, api.ErrTwice
		}
		made.Places = append(made.Places, place)
	}
	return made, api.OK
}

// drop looks for a table or a view alone: which indexes there are is not known here.
func (c checker) drop(s dropping) (api.Checked, api.Errno) {
	if s.what != dropIndex && c.unused(s.name) == api.OK {
		return api.Checked{}, api.ErrTable
	}
	return api.Checked{Num: s.what}, api.OK
}

func (c checker) insert(s insertion) (api.Checked, api.Errno) {
	r, bad := c.get(s.into)
	if bad != api.OK {
		return api.Checked{}, bad
	}
	if len(s.rows) > api.MaxValues {
		return api.Checked{}, api.ErrLong
	}
	made := api.Checked{Cols: r.Cols}
	for _, a := range s.rows {
		row, bad := rowOf(r.Cols, a.Kids)
		if bad != api.OK {
			return api.Checked{}, bad
		}
		made.Rows = append(made.Rows, row)
	}
	return made, api.OK
}

// rowOf is a row of such columns.
func rowOf(cols []api.Col, values []api.Ast) (api.Row, api.Errno) {
	if len(values) != len(cols) {
		return nil, api.ErrColumns
	}
	row := make(api.Row, len(cols))
	for i, a := range values {
		d, bad := valueOf(cols[i], a.Lit)
		if bad != api.OK {
			return nil, bad
		}
		row[i] = d
	}
	return row, api.OK
}

// valueOf is a value as one of a column.
func valueOf(col api.Col, d api.Datum) (api.Datum, api.Errno) {
	switch {
	case d.Kind == api.Null && !col.Null:
		return api.Datum{}, api.ErrNull
	case d.Kind == api.Null, d.Kind == col.Type:
		return d, api.OK
	case d.Kind == api.Int && col.Type == api.Dec:
		return datum.Apply(api.OpDec, d)
	}
	return api.Datum{}, api.ErrType
}

func (c checker) remove(s deletion) (api.Checked, api.Errno) {
	r, bad := c.get(s.from)
	if bad != api.OK {
		return api.Checked{}, bad
	}
	where, bad := each(s.where, &scope{columns: sourced(s.from, r.Cols)}, c.condition)
	if bad != api.OK {
		return api.Checked{}, bad
	}
	return asks(filtered(r, where), api.OK)
}
