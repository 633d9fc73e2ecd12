package flat

import (
	"slices"

	"freshet/api"
	"freshet/datum"
	"freshet/eval"
	"freshet/zset"
)

// tablesOf are the rows of the tables of some names, whose rows must have so many values.
func tablesOf(db []api.Filled, widths map[string]int) (map[string][]api.Count, api.Errno) {
	given := map[string][]api.Count{}
	for _, t := range slices.Backward(db) { // so that the first one of a name is the one that stays
		given[t.Name] = t.Rows
	}
	names := rising(widths)
	for _, name := range names {
		if _, there := given[name]; !there {
			return nil, api.ErrNone
		}
	}
	tables := map[string][]api.Count{}
	for _, name := range names {
		there, bad := zset.Positive(given[name])
		switch {
		case bad != api.OK:
			return nil, api.ErrEval
		case slices.ContainsFunc(there, func(c api.Count) bool { return !fits(c.Row, widths[name]) }):
			return nil, api.ErrArg
		}
		tables[name] = there
	}
	return tables, api.OK
}

// making is what is known while it is found out what a plan, that may be, makes. In all counted rows in it each row stands once, and none 0 times, as an expression is evaluated just on what is there; in which order does not matter.
type making struct {
	named map[string][]api.Count // of tables, and of the marks of the FLets around; no name is both
}

// rows are what a plan makes. Each of its parts is worked out, as an error anywhere is one of the whole.
func (m *making) rows(f api.Flat) ([]api.Count, api.Errno) {
	if f.Kind == api.FLet {
		return m.let(f)
	}
	kids := make([][]api.Count, len(f.Kids))
	for i, kid := range f.Kids {
		made, bad := m.rows(kid)
		if bad != api.OK {
			return nil, bad
		}
		kids[i] = made
	}
	switch f.Kind {
	case api.FGet:
		return m.named[f.Name], api.OK
	case api.FRows:
		return zset.Tidy(f.Rows...)
	case api.FJoin:
		return joined(f, kids[0], kids[1]), api.OK
	case api.FUnion:
		return zset.Tidy(slices.Concat(kids...)...)
	}
	return changed(f, kids[0])
}

func (m *making) let(f api.Flat) ([]api.Count, api.Errno) {
	first, bad := m.rows(f.Kids[0])
	if bad != api.OK {
		return nil, bad
	}
	m.named[f.Name] = first
	defer delete(m.named, f.Name) // so that its rows can go
	return m.rows(f.Kids[1])
}

// changed is what a plan with one Kid makes of what this one makes.
func changed(f api.Flat, rows []api.Count) ([]api.Count, api.Errno) {
	switch f.Kind {
	case api.FMap:
		return mapped(rows, f.Exprs)
	case api.FFilter:
		return filtered(rows, f.Exprs[0])
	case api.FCols:
		return columns(rows, f.Cols)
	case api.FNegate:
		return zset.Negate(rows)
	case api.FPos:
		return zset.Positive(rows)
	case api.FDistinct:
		return zset.Distinct(rows)
	case api.FReduce:
		return byGroups(rows, f.Cols, func(group []api.Count) ([]api.Count, api.Errno) { return reduced(f, group) })
	case api.FTop:
		return byGroups(rows, f.Cols, func(group []api.Count) ([]api.Count, api.Errno) { return first(f, group), api.OK })
	}
	return byGroups(rows, f.Cols, only)
}

// mapped has behind each row the values of expressions on it.
func mapped(rows []api.Count, l []api.Expr) ([]api.Count, api.Errno) {
	all := make([]api.Count, len(rows))
	for i, c := range rows {
		env, values := []api.Row{c.Row}, make(api.Row, len(l))
		for k, e := range l {
			d, bad := eval.Value(e, env)
			if bad != api.OK {
				return nil, bad
			}
			values[k] = d
		}
		all[i] = api.Count{Row: slices.Concat(c.Row, values), N: c.N}
	}
	return all, api.OK
}

// filtered are the rows on which an expression is true.
func filtered(rows []api.Count, e api.Expr) ([]api.Count, api.Errno) {
	var l []api.Count
	for _, c := range rows {
		d, bad := eval.Value(e, []api.Row{c.Row})
		if bad != api.OK {
			return nil, bad
		}
		if d == (api.Datum{Kind: api.Bool, I: 1}) {
			l = append(l, c)
		}
	}
	return l, api.OK
}

// columns has of each row the values at places.
func columns(rows []api.Count, places []int) ([]api.Count, api.Errno) {
	l := make([]api.Count, len(rows))
	for i, c := range rows {
		l[i] = api.Count{Row: at(c.Row, places), N: c.N}
	}
	return zset.Tidy(l...)
}

// at are a row's values at places.
func at(r api.Row, places []int) api.Row {
	values := make(api.Row, len(places))
	for i, place := range places {
		values[i] = r[place]
	}
	return values
}

// joined has each row of one side with each one of the other that has the same values.
func joined(f api.Flat, left, right []api.Count) []api.Count {
	sides := groups(right, f.More)
	var all []api.Count
	for _, l := range left {
		place, found := slices.BinarySearchFunc(sides, l.Row, func(side []api.Count, r api.Row) int {
			return compareAt(side[0].Row, f.More, r, f.Cols)
		})
		if !found {
			continue
		}
		for _, r := range sides[place] {
			all = append(all, api.Count{Row: slices.Concat(l.Row, r.Row), N: l.N * r.N})
		}
	}
	return all
}

// compareAt orders two rows by the values of each at its own places, as many of the one as of the other.
func compareAt(a api.Row, placesA []int, b api.Row, placesB []int) int {
	for i, place := range placesA {
		if order := datum.Compare(a[place], b[placesB[i]]); order != 0 {
			return order
		}
	}
	return 0
}
