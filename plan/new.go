package plan

import (
	"slices"
	"strings"

	"freshet/api"
)

// newChecked is the same in new memory, its texts too: what is found out on the way shares some, among itself and with what was handed in.
func newChecked(c api.Checked) api.Checked {
	c.Name, c.Of = strings.Clone(c.Name), strings.Clone(c.Of)
	c.Cols, c.Rel, c.Rows = anew(c.Cols, newCol), newRel(c.Rel), anew(c.Rows, newRow)
	c.Places, c.Reads = slices.Clone(c.Places), anew(c.Reads, strings.Clone)
	return c
}

// anew is a list of what each one of another list is made anew as.
func anew[T any](l []T, again func(T) T) []T {
	if len(l) == 0 {
		return nil
	}
	made := make([]T, len(l))
	for i, one := range l {
		made[i] = again(one)
	}
	return made
}

func newCol(c api.Col) api.Col {
	c.Name = strings.Clone(c.Name)
	return c
}

func newRow(r api.Row) api.Row {
	return anew(r, newDatum)
}

func newDatum(d api.Datum) api.Datum {
	d.S = strings.Clone(d.S)
	return d
}

func newRel(r api.Rel) api.Rel {
	r.Name = strings.Clone(r.Name)
	r.Cols, r.Exprs, r.Aggs, r.Kids = anew(r.Cols, newCol), anew(r.Exprs, newExpr), anew(r.Aggs, newAgg), anew(r.Kids, newRel)
	r.Nums, r.Desc = slices.Clone(r.Nums), slices.Clone(r.Desc)
	return r
}

func newExpr(e api.Expr) api.Expr {
	e.Lit = newDatum(e.Lit)
	e.Kids, e.Subs = anew(e.Kids, newExpr), anew(e.Subs, newRel)
	return e
}

func newAgg(a api.Agg) api.Agg {
	a.Args = anew(a.Args, newExpr)
	return a
}
