package lower

import (
	"slices"

	"freshet/api"
)

// scope is the rows of some scopes, put side by side, which can be asked for any number of times: place tells where a column stands in them, of the innermost scope (level 0) or of one further out.
type scope struct {
	rows  func() api.Flat
	width int
	place func(level, col int) int
	sole  bool // it is one row, without values: nothing lies outside
}

// nothing is what lies outside of a query that stands in no other one.
func (l *lowering) nothing() scope {
	return scope{rows: l.one, place: func(int, int) int { panic(tooLong) }, sole: true}
}

// part is a plan of a query within OUTER, the rows of the scopes outside, each of which is there once. If it is bound, it has for each of them what the query means within it, and OUTER's columns stand ahead. If it is not, it has what the query means within whichever of them, is never an error, and does not mind whether there is one.
type part struct {
	plan  api.Flat
	bound bool
	ahead int   // how many columns of OUTER stand ahead
	cols  []int // which of the query's columns stand behind those, rising
}

func (p part) width() int { return p.ahead + len(p.cols) }

// bind makes a part one that is bound.
func (l *lowering) bind(p part, o scope) part {
	if p.bound {
		return p
	}
	return part{l.joined(o.rows(), p.plan, nil, nil), true, o.width, p.cols}
}

// ready is a part on whose rows expressions can be evaluated: bound, but for expressions that can be evaluated anywhere.
func (l *lowering) ready(p part, o scope, exprs []api.Expr) part {
	if slices.ContainsFunc(exprs, func(e api.Expr) bool { return !apart(e) }) {
		return l.bind(p, o)
	}
	return p
}

// cut has of a part's columns just those that are asked for.
func (l *lowering) cut(p part, asked []int) part {
	places := upTo(p.ahead)
	for _, col := range asked {
		places = append(places, p.ahead+placeIn(p.cols, col))
	}
	return part{l.columns(p.plan, p.width(), places), p.bound, p.ahead, asked}
}

// rows are those on which expressions are evaluated.
type rows struct {
	plan  api.Flat
	width int
	place func(level, col int) int
}

// rowsOf are a part's.
func rowsOf(p part, o scope) rows {
	return rows{p.plan, p.width(), func(level, col int) int {
		if level == 0 {
			return p.ahead + placeIn(p.cols, col)
		}
		return o.place(level-1, col)
	}}
}

// again are the same rows, that can be asked for any number of times.
func (r rows) again(plan func() api.Flat) scope {
	return scope{rows: plan, width: r.width, place: r.place}
}
