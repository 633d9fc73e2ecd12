package lower

import (
	"slices"
	"strconv"
	"strings"

	"freshet/api"
)

// lowering is what is known while a plan is made.
type lowering struct {
	nodes int // of the plan, so far
	marks int
}

// node is a node more.
func (l *lowering) node(f api.Flat) api.Flat {
	l.nodes++
	if l.nodes > api.MaxPlan {
		panic(tooLong)
	}
	return f
}

func (l *lowering) get(name string, width int) api.Flat {
	return l.node(api.Flat{Kind: api.FGet, Name: strings.Clone(name), Width: width})
}

// one is a row without values, once.
func (l *lowering) one() api.Flat {
	return l.node(api.Flat{Kind: api.FRows, Rows: []api.Count{{N: 1}}})
}

// mapped has the values of expressions behind the rows.
func (l *lowering) mapped(f api.Flat, exprs ...api.Expr) api.Flat {
	if len(exprs) == 0 {
		return f
	}
	return l.node(api.Flat{Kind: api.FMap, Exprs: exprs, Kids: []api.Flat{f}})
}

func (l *lowering) filtered(f api.Flat, e api.Expr) api.Flat {
	return l.node(api.Flat{Kind: api.FFilter, Exprs: []api.Expr{e}, Kids: []api.Flat{f}})
}

// columns are some of a plan's, which has so many.
func (l *lowering) columns(f api.Flat, width int, places []int) api.Flat {
	if slices.Equal(places, upTo(width)) {
		return f
	}
	if f.Kind != api.FCols {
		return l.node(api.Flat{Kind: api.FCols, Cols: slices.Clone(places), Kids: []api.Flat{f}})
	}
	var cols []int
	for _, place := range places {
		cols = append(cols, at(f.Cols, place))
	}
	f.Cols = cols
	return f
}

// joined are the rows of two plans side by side that have the same values at some places.
func (l *lowering) joined(a, b api.Flat, places, others []int) api.Flat {
	return l.node(api.Flat{Kind: api.FJoin, Cols: slices.Clone(places), More: slices.Clone(others), Kids: []api.Flat{a, b}})
}

func (l *lowering) union(kids ...api.Flat) api.Flat {
	return l.node(api.Flat{Kind: api.FUnion, Kids: kids})
}

// over is a plan of a kind that asks for nothing but its Kid.
func (l *lowering) over(kind int, f api.Flat) api.Flat {
	return l.node(api.Flat{Kind: kind, Kids: []api.Flat{f}})
}

func (l *lowering) distinct(f api.Flat) api.Flat {
	return l.over(api.FDistinct, f)
}

// less are the rows of one plan less those of another one.
func (l *lowering) less(a, b api.Flat) api.Flat {
	return l.union(a, l.over(api.FNegate, b))
}

// let makes a plan once, and hands it to body, that can ask for it any number of times, once at least.
func (l *lowering) let(f api.Flat, width int, body func(again func() api.Flat) api.Flat) api.Flat {
	if f.Kind == api.FGet {
		return body(func() api.Flat { return l.get(f.Name, width) }) // a table, or what has a mark already
	}
	l.marks++
	digits := strconv.Itoa(l.marks)
	return l.node(api.Flat{Kind: api.FLet, Name: "$" + digits, Kids: []api.Flat{f, body(func() api.Flat {
		return l.get("$"+digits, width)
	})}})
}

// upTo are the numbers from 0 to n - 1.
func upTo(n int) []int {
	if n > api.MaxWidth {
		panic(tooLong)
	}
	l := make([]int, n)
	for i := range l {
		l[i] = i
	}
	return l
}

// moved are numbers, each greater by n.
func moved(l []int, n int) []int {
	var more []int
	for _, place := range l {
		more = append(more, place+n)
	}
	return more
}

// rising are the numbers of some lists, each once.
func rising(lists ...[]int) []int {
	l := slices.Concat(lists...)
	slices.Sort(l)
	return slices.Compact(l)
}

// placeIn is where a number stands in a list that rises.
func placeIn(l []int, n int) int {
	place, there := slices.BinarySearch(l, n)
	if !there {
		panic(tooLong)
	}
	return place
}
