package mean

import (
	"cmp"
	"slices"

	"freshet/api"
	"freshet/datum"
	"freshet/row"
	"freshet/zset"
)

// rows are what a query means within the scopes.
func (m *meaning) rows(r api.Rel) []api.Count {
	switch r.Kind {
	case api.RGet:
		return m.table(r.Name)
	case api.ROne:
		return []api.Count{{N: 1}}
	case api.RFilter:
		return m.filtered(m.kid(r, 0), at(r.Exprs, 0))
	case api.RMap:
		return m.mapped(m.kid(r, 0), r.Exprs)
	case api.RJoin:
		return m.joined(r)
	case api.RGroup:
		return m.grouped(r)
	case api.RDistinct:
		return must(zset.Distinct(m.kid(r, 0)))
	case api.RUnion:
		return together(m.kid(r, 0), m.kid(r, 1))
	case api.RExcept:
		return less(m.kid(r, 0), m.kid(r, 1))
	case api.RInter:
		left, right := m.kid(r, 0), m.kid(r, 1)
		return less(left, less(left, right)) // of the left what is not there beyond the right
	case api.RTop:
		return m.top(r)
	}
	panic(anError)
}

// kid is what one of a query's Kids means.
func (m *meaning) kid(r api.Rel, place int) []api.Count {
	return m.rows(at(r.Kids, place))
}

// together are the rows of both.
func together(a, b []api.Count) []api.Count {
	return must(zset.Tidy(slices.Concat(a, b)...))
}

// less has each row as often as in one less the other's times.
func less(a, b []api.Count) []api.Count {
	return must(zset.Positive(slices.Concat(a, must(zset.Negate(b)))))
}

// filtered are the rows of which an expression is true.
func (m *meaning) filtered(rows []api.Count, e api.Expr) []api.Count {
	var l []api.Count
	for _, c := range rows {
		if m.on(c.Row, e) == truth(true) {
			l = append(l, c)
		}
	}
	return l
}

// mapped has of each row the values of expressions.
func (m *meaning) mapped(rows []api.Count, l []api.Expr) []api.Count {
	var all []api.Count
	for _, c := range rows {
		all = append(all, api.Count{Row: m.values(c.Row, l), N: c.N})
	}
	return must(zset.Tidy(all...))
}

// values are those of expressions on a row.
func (m *meaning) values(r api.Row, l []api.Expr) api.Row {
	var values api.Row
	for _, e := range l {
		values = append(values, m.on(r, e))
	}
	return values
}

// top are the first rows in an order.
func (m *meaning) top(r api.Rel) []api.Count {
	order := func(a, b api.Count) int {
		return cmp.Or(byColumns(r, a.Row, b.Row), row.Compare(a.Row, b.Row))
	}
	var first []api.Count
	left := int64(r.Limit)
	for _, c := range slices.SortedFunc(slices.Values(m.kid(r, 0)), order) {
		c.N = min(c.N, left)
		if c.N <= 0 {
			break
		}
		first = append(first, c)
		left -= c.N
	}
	return first
}

// byColumns orders two rows by the columns that a query names.
func byColumns(r api.Rel, a, b api.Row) int {
	for i, place := range r.Nums {
		order := datum.Compare(at(a, place), at(b, place))
		if at(r.Desc, i) {
			order = -order
		}
		if order != 0 {
			return order
		}
	}
	return 0
}
