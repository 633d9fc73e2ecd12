package plan

import (
	"slices"

	"freshet/api"
)

// part is one of a FROM: its rows, and its columns as they can be named.
type part struct {
	rel     api.Rel
	columns []column
}

// from goes through a FROM, from the left.
type from struct {
	checker
	outer *scope
	names []string // of the sources that stand ahead
}

// all is what a whole FROM makes.
func (f *from) all(l []api.Ast) (part, api.Errno) {
	if len(l) == 0 {
		return part{rel: api.Rel{Kind: api.ROne}}, api.OK
	}
	left, bad := f.part(l[0], nil)
	for _, a := range l[1:] {
		if bad != api.OK {
			break
		}
		left, bad = f.comma(left, a)
	}
	return left, bad
}

// comma joins all that stands ahead of a comma with what stands behind it.
func (f *from) comma(left part, a api.Ast) (part, api.Errno) {
	right, bad := f.part(a, &left)
	if bad != api.OK {
		return part{}, bad
	}
	yes := api.Expr{Kind: api.ELit, Type: api.Bool, Lit: api.Datum{Kind: api.Bool, I: 1}}
	return joined(left, right, yes, isLateral(a)), api.OK
}

// part is a source or a join; left is what a lateral one sees, if it stands to the right of something.
func (f *from) part(a api.Ast, left *part) (part, api.Errno) {
	switch p := partOf(a).(type) {
	case table:
		return f.table(p)
	case inner:
		return f.inner(p, left)
	case joining:
		return f.join(p)
	}
	return part{}, api.ErrAst
}

func isLateral(a api.Ast) bool {
	p, ok := partOf(a).(inner)
	return ok && p.lateral
}

func (f *from) table(t table) (part, api.Errno) {
	r, bad := f.get(t.name)
	if bad != api.OK {
		return part{}, bad
	}
	if t.alias == "" {
		t.alias = t.name
	}
	return f.source(r, t.alias)
}

func (f *from) inner(p inner, left *part) (part, api.Errno) {
	outer := f.outer
	if p.lateral && left != nil {
		outer = &scope{scope: outer, columns: left.columns}
	}
	r, bad := f.query(p.query, outer)
	if bad != api.OK {
		return part{}, bad
	}
	if haveTwice(r.Cols) {
		return part{}, api.ErrTwice
	}
	return f.source(r, p.alias)
}

// source is a query's rows as a source of a name, that none ahead may have.
func (f *from) source(r api.Rel, name string) (part, api.Errno) {
	if slices.Contains(f.names, name) {
		return part{}, api.ErrTwice
	}
	f.names = append(f.names, name)
	return part{r, sourced(name, r.Cols)}, api.OK
}

func (f *from) join(j joining) (part, api.Errno) {
	left, bad := f.part(j.left, nil)
	if bad != api.OK {
		return part{}, bad
	}
	right, bad := f.part(j.right, &left)
	if bad != api.OK {
		return part{}, bad
	}
	on, bad := f.condition(j.on, &scope{scope: f.outer, columns: slices.Concat(left.columns, right.columns)})
	if bad != api.OK {
		return part{}, bad
	}
	if j.how != joinLeft {
		return joined(left, right, on, isLateral(j.right)), api.OK
	}
	for i := range right.columns {
		right.columns[i].Null = true
	}
	p := joined(left, right, on, isLateral(j.right))
	p.rel.Flag = true
	return p, api.OK
}

// joined are two parts side by side, where the condition is true.
func joined(left, right part, on api.Expr, lateral bool) part {
	columns := slices.Concat(left.columns, right.columns)
	return part{api.Rel{Kind: api.RJoin, Cols: plain(columns), Exprs: []api.Expr{on}, Kids: []api.Rel{left.rel, right.rel}, Lateral: lateral}, columns}
}
