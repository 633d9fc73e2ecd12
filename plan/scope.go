package plan

import (
	"slices"

	"freshet/api"
)

// column is one that can be named.
type column struct {
	source string
	api.Col
}

// scope is a row of columns that can be named, within the scope that it embeds (none: nil).
type scope struct {
	*scope
	columns []column
	groups  *groups // of the rows, where nothing but groups of them is there
}

// groups are what they are made by, places of columns, and their aggregates, as they are met.
type groups struct {
	keys []int
	aggs []api.Agg
}

// find looks for a column, in the innermost scope first.
func (s *scope) find(r reference) (api.Expr, api.Errno) {
	for level := 0; s != nil; level++ {
		place, bad := s.place(r)
		switch bad {
		case api.OK:
			return s.at(place, level)
		case api.ErrAmbiguous:
			return api.Expr{}, bad
		}
		s = s.scope
	}
	return api.Expr{}, api.ErrColumn
}

// place is where a column stands in this scope alone.
func (s *scope) place(r reference) (int, api.Errno) {
	is := func(c column) bool { return c.Name == r.name && (r.source == "" || c.source == r.source) }
	place := slices.IndexFunc(s.columns, is)
	switch {
	case place < 0:
		return 0, api.ErrColumn
	case slices.ContainsFunc(s.columns[place+1:], is):
		return 0, api.ErrAmbiguous
	}
	return place, api.OK
}

// at is the column at a place of this scope, as it is seen with so many scopes within this one.
func (s *scope) at(place, level int) (api.Expr, api.Errno) {
	col := s.columns[place].Col
	if s.groups != nil {
		place = slices.Index(s.groups.keys, place)
	}
	if place < 0 {
		return api.Expr{}, api.ErrAgg
	}
	return columnOf(col, level, place), api.OK
}

func columnOf(col api.Col, level, place int) api.Expr {
	return api.Expr{Kind: api.ECol, Type: col.Type, Null: col.Null, Level: level, Col: place}
}

// rows is the scope of the rows of which groups are made.
func (s *scope) rows() *scope {
	return &scope{s.scope, s.columns, nil}
}

// aggregate is the column of one more aggregate of the groups.
func (s *scope) aggregate(agg api.Agg) api.Expr {
	g := s.groups
	g.aggs = append(g.aggs, agg)
	return columnOf(colOf(agg), 0, len(g.keys)+len(g.aggs)-1)
}

// colOf is an aggregate's column: without a name.
func colOf(agg api.Agg) api.Col {
	return api.Col{Type: agg.Type, Null: agg.Fn != api.AggRows && agg.Fn != api.AggCount}
}

// sourced are columns as those of a source of that name.
func sourced(name string, cols []api.Col) []column {
	l := make([]column, len(cols))
	for i, col := range cols {
		l[i] = column{name, col}
	}
	return l
}

// plain are columns without their sources.
func plain(columns []column) []api.Col {
	l := make([]api.Col, len(columns))
	for i, c := range columns {
		l[i] = c.Col
	}
	return l
}
