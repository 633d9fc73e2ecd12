package flat

import (
	"slices"

	"freshet/api"
	"freshet/datum"
	"freshet/row"
	"freshet/zset"
)

// groups puts rows that have the same values at places together, by rising values.
func groups(rows []api.Count, places []int) [][]api.Count {
	rest := slices.Clone(rows)
	order := func(a, b api.Count) int { return compareAt(a.Row, places, b.Row, places) }
	slices.SortFunc(rest, order)
	var l [][]api.Count
	for len(rest) > 0 {
		same := 1
		for same < len(rest) && order(rest[0], rest[same]) == 0 {
			same++
		}
		l = append(l, rest[:same])
		rest = rest[same:]
	}
	return l
}

// byGroups is all together that is made of each group of the rows that are there more than 0 times.
func byGroups(rows []api.Count, places []int, made func(group []api.Count) ([]api.Count, api.Errno)) ([]api.Count, api.Errno) {
	there, _ := zset.Positive(rows) // it has no error where each row stands once
	var all []api.Count
	for _, group := range groups(there, places) {
		l, bad := made(group)
		if bad != api.OK {
			return nil, bad
		}
		all = append(all, l...)
	}
	return all, api.OK
}

// only is a group that has one row, once.
func only(group []api.Count) ([]api.Count, api.Errno) {
	if len(group) > 1 || group[0].N > 1 {
		return nil, api.ErrEval
	}
	return group, api.OK
}

// first are the first rows of a group, each as often as it is there.
func first(f api.Flat, group []api.Count) []api.Count {
	var l []api.Count
	left := int64(f.Limit)
	for _, c := range slices.SortedFunc(slices.Values(group), func(a, b api.Count) int { return inTop(f, a.Row, b.Row) }) {
		if left == 0 {
			break
		}
		n := min(c.N, left)
		left -= n
		l = append(l, api.Count{Row: c.Row, N: n})
	}
	return l
}

// inTop orders two rows as an FTop has them.
func inTop(f api.Flat, a, b api.Row) int {
	for i, place := range f.More {
		order := datum.Compare(a[place], b[place])
		if f.Desc[i] {
			order = -order
		}
		if order != 0 {
			return order
		}
	}
	return row.Compare(a, b)
}

// reduced is a group's one row: what its rows have in common, and its aggregates.
func reduced(f api.Flat, group []api.Count) ([]api.Count, api.Errno) {
	one := at(group[0].Row, f.Cols)
	for _, a := range f.Aggs {
		d, bad := aggregate(a, group)
		if bad != api.OK {
			return nil, bad
		}
		one = append(one, d)
	}
	return []api.Count{{Row: one, N: 1}}, api.OK
}

// aggregate is an aggregate's value of a group.
func aggregate(a api.Fold, group []api.Count) (api.Datum, api.Errno) {
	if a.Fn == api.AggRows {
		return howMany(group)
	}
	known := slices.DeleteFunc(slices.Clone(group), func(c api.Count) bool { return c.Row[a.Col].Kind == api.Null })
	order := func(x, y api.Count) int { return datum.Compare(x.Row[a.Col], y.Row[a.Col]) }
	switch {
	case a.Fn == api.AggCount:
		return howMany(known)
	case len(known) == 0:
		return api.Datum{}, api.OK
	case a.Fn == api.AggMin:
		return slices.MinFunc(known, order).Row[a.Col], api.OK
	case a.Fn == api.AggMax:
		return slices.MaxFunc(known, order).Row[a.Col], api.OK
	}
	return sum(known, a.Col)
}
