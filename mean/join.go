package mean

import (
	"slices"

	"freshet/api"
)

// joined has each row of the left side with each one of the right side, where the expression is true.
func (m *meaning) joined(r api.Rel) []api.Count {
	left, side := m.kid(r, 0), at(r.Kids, 1)
	var right []api.Count
	if !r.Lateral {
		right = m.rows(side) // even if the left side has no rows: an error in it is one then, too
	}
	var all []api.Count
	for _, c := range left {
		if r.Lateral {
			right = m.rowsOn(c.Row, side)
		}
		both := m.filtered(pairs(c, right), at(r.Exprs, 0))
		if r.Flag && len(both) == 0 {
			both = pairs(c, []api.Count{{Row: make(api.Row, len(side.Cols)), N: 1}})
		}
		all = append(all, both...)
	}
	return all
}

// rowsOn are what a query means within a row.
func (m *meaning) rowsOn(r api.Row, side api.Rel) []api.Count {
	m.enter(r)
	rows := m.rows(side)
	m.leave()
	return rows
}

// pairs are a row and each of some others in one.
func pairs(left api.Count, right []api.Count) []api.Count {
	var l []api.Count
	for _, c := range right {
		l = append(l, api.Count{Row: slices.Concat(left.Row, c.Row), N: left.N * c.N})
	}
	return l
}
