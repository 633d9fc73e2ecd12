package mean

import (
	"slices"

	"freshet/api"
	"freshet/row"
)

// group are rows whose keys have the same values.
type group struct {
	key  api.Row
	rows []api.Count
}

// grouped has a row of each group: the keys' values and the aggregates'.
func (m *meaning) grouped(r api.Rel) []api.Count {
	rows := m.kid(r, 0)
	groups := []group{{nil, rows}}
	if !r.Flag {
		groups = m.groups(rows, r.Exprs)
	}
	var all []api.Count
	for _, g := range groups {
		one := g.key
		for _, a := range r.Aggs {
			one = append(one, m.aggregate(a, g.rows))
		}
		all = append(all, api.Count{Row: one, N: 1})
	}
	return all
}

// groups puts the rows that have the same key together, by rising keys.
func (m *meaning) groups(rows []api.Count, keys []api.Expr) []group {
	var single []group
	for _, c := range rows {
		single = append(single, group{m.values(c.Row, keys), []api.Count{c}})
	}
	slices.SortStableFunc(single, func(a, b group) int { return row.Compare(a.key, b.key) })
	var l []group
	for _, g := range single {
		last := len(l) - 1
		if last >= 0 && row.Compare(l[last].key, g.key) == 0 {
			l[last].rows = append(l[last].rows, g.rows...)
		} else {
			l = append(l, g)
		}
	}
	return l
}
