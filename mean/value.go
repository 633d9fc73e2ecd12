package mean

import (
	"freshet/api"
	"freshet/datum"
	"freshet/eval"
)

// on is what an expression is worth on a row.
func (m *meaning) on(r api.Row, e api.Expr) api.Datum {
	m.enter(r)
	d := m.value(e)
	m.leave()
	return d
}

// value is what an expression is worth in the scopes. All its subqueries are evaluated, whether they are come to or not.
func (m *meaning) value(e api.Expr) api.Datum {
	return must(eval.Value(e, m.env(), m.subqueries(nil, e)...))
}

// subqueries puts the values of an expression's subqueries, from the left, behind those that stand ahead of it.
func (m *meaning) subqueries(ahead []api.Datum, e api.Expr) []api.Datum {
	switch e.Kind {
	case api.EExists:
		return append(ahead, truth(len(m.found(e)) > 0))
	case api.EScalar:
		return append(ahead, m.scalar(e))
	case api.EIn:
		return append(ahead, m.isAmong(e))
	case api.ECall:
		for _, kid := range e.Kids {
			ahead = m.subqueries(ahead, kid)
		}
	}
	return ahead
}

// found are the rows of an expression's own subquery.
func (m *meaning) found(e api.Expr) []api.Count {
	return m.rows(at(e.Subs, 0))
}

// scalar is the only value that a subquery finds.
func (m *meaning) scalar(e api.Expr) api.Datum {
	rows := m.found(e)
	switch {
	case len(rows) == 0:
		return api.Datum{}
	case len(rows) > 1, rows[0].N > 1:
		panic(anError)
	}
	return at(rows[0].Row, 0)
}

// isAmong tells whether an EIn's Kid is one of the values that its subquery finds. Within a found row the Kid's Levels are all one greater: it looks past the row, and is worth the same on each of them, which is what it is worth in the scopes around.
func (m *meaning) isAmong(e api.Expr) api.Datum {
	rows := m.found(e)
	if len(rows) == 0 {
		return truth(false) // the Kid is evaluated on no row, and is no error then
	}
	kid := m.value(at(e.Kids, 0))
	among := truth(false)
	for _, c := range rows {
		switch same := must(datum.Apply(api.OpEq, kid, at(c.Row, 0))); same {
		case truth(true):
			return same
		case api.Datum{}:
			among = same
		}
	}
	return among
}

// truth is a BOOL.
func truth(b bool) api.Datum {
	if b {
		return api.Datum{Kind: api.Bool, I: 1}
	}
	return api.Datum{Kind: api.Bool}
}
