package lower_test

import (
	"reflect"
	"testing"

	"freshet/api"
)

// bare is a plan's node that has just what chapter 9 names for its kind.
func bare(f api.Flat) api.Flat {
	b := api.Flat{Kind: f.Kind, Kids: f.Kids}
	switch f.Kind {
	case api.FGet:
		b.Name, b.Width = f.Name, f.Width
	case api.FRows:
		b.Width, b.Rows = f.Width, f.Rows
	case api.FMap, api.FFilter:
		b.Exprs = f.Exprs
	case api.FCols, api.FOne:
		b.Cols = f.Cols
	case api.FJoin:
		b.Cols, b.More = f.Cols, f.More
	case api.FReduce:
		b.Cols, b.Aggs = f.Cols, f.Aggs
	case api.FTop:
		b.Cols, b.More, b.Desc, b.Limit = f.Cols, f.More, f.Desc, f.Limit
	case api.FLet:
		b.Name = f.Name
	}
	return b
}

// bareExpr is an expression that has just what chapter 9 names for its kind, and what each one has.
func bareExpr(e api.Expr) api.Expr {
	b := api.Expr{Kind: e.Kind, Type: e.Type, Null: e.Null}
	switch e.Kind {
	case api.ELit:
		b.Lit = e.Lit
	case api.ECol:
		b.Col = e.Col
	case api.ECall:
		b.Op, b.Kids = e.Op, e.Kids
	}
	return b
}

// typing finds out the types of a plan's columns.
type typing struct {
	t      *testing.T
	s      string
	tables map[string][]api.Col
	marks  map[string][]int
}

func (y *typing) wrong(f api.Flat, why string) {
	y.t.Helper()
	y.t.Fatalf("%.2000s: %s: %s", y.s, why, describe(f))
}

// expr asks that an expression has types as the columns of those types ask.
func (y *typing) expr(f api.Flat, e api.Expr, types []int) {
	if !reflect.DeepEqual(e, bareExpr(e)) {
		y.wrong(f, "an expression has more than its kind")
	}
	switch {
	case e.Kind == api.ELit && e.Lit.Kind != api.Null && e.Lit.Kind != e.Type, e.Kind == api.ECol && e.Type != types[e.Col]:
		y.wrong(f, "an expression of another type")
	case e.Kind == api.ELit && e.Null != (e.Lit.Kind == api.Null), e.Kind == api.ECall && e.Op == api.OpEq && e.Null != (e.Kids[0].Null || e.Kids[1].Null):
		y.wrong(f, "an expression that may be NULL, or may not")
	}
	for _, kid := range e.Kids {
		y.expr(f, kid, types)
	}
}

// types are those of a plan's columns; each expression in it must be of such ones.
func (y *typing) types(f api.Flat) []int {
	if !reflect.DeepEqual(f, bare(f)) {
		y.wrong(f, "a node has more than its kind")
	}
	if f.Kind == api.FLet {
		y.marks[f.Name] = y.types(f.Kids[0])
		return y.types(f.Kids[1])
	}
	var kids [][]int
	for _, kid := range f.Kids {
		kids = append(kids, y.types(kid))
	}
	for _, e := range f.Exprs {
		y.expr(f, e, kids[0])
	}
	at := func(places []int) []int {
		var l []int
		for _, place := range places {
			l = append(l, kids[0][place])
		}
		return l
	}
	switch f.Kind {
	case api.FGet:
		return y.table(f)
	case api.FRows:
		return nil
	case api.FMap:
		l := append([]int(nil), kids[0]...)
		for _, e := range f.Exprs {
			l = append(l, e.Type)
		}
		return l
	case api.FCols:
		return at(f.Cols)
	case api.FJoin:
		return append(append([]int(nil), kids[0]...), kids[1]...)
	case api.FUnion:
		for _, l := range kids {
			if !reflect.DeepEqual(append([]int{}, l...), append([]int{}, kids[0]...)) {
				y.wrong(f, "columns of two types")
			}
		}
	case api.FReduce:
		l := at(f.Cols)
		for _, a := range f.Aggs {
			if a.Fn == api.AggRows || a.Fn == api.AggCount {
				l = append(l, api.Int)
			} else {
				l = append(l, kids[0][a.Col])
			}
		}
		return l
	}
	return kids[0]
}

func (y *typing) table(f api.Flat) []int {
	if l, is := y.marks[f.Name]; is {
		return l
	}
	var l []int
	for _, c := range y.tables[f.Name] {
		l = append(l, c.Type)
	}
	return l
}

// P10.1, R2: a plan's columns are of the query's types, and its expressions of the types of what comes to them (chapter 11 speaks of such plans); nothing has more than its kind.
func TestTypes(t *testing.T) {
	tables := map[string][]api.Col{}
	for _, s := range manySchemas() {
		tables[s.Name] = s.Cols
	}
	columns := 0
	for seed := range uint64(2500) {
		r, s, is := someQuery(seed+1<<33, 1+int(seed%6))
		if !is {
			continue
		}
		f := lowered(t, s, r)
		y := &typing{t, s, tables, map[string][]int{}}
		for i, kind := range y.types(f) {
			columns++
			if kind != r.Cols[i].Type {
				y.wrong(f, "a column of another type")
			}
		}
	}
	if columns < 2000 {
		t.Errorf("%d columns", columns)
	}
}

// P10.1: the chapter's examples: what has no subqueries needs no FLet, a table that is asked for is read just so often.
func TestExamplesOfPlans(t *testing.T) {
	for s, gets := range map[string]int{
		"SELECT a FROM t": 1, "SELECT 1 FROM t AS x, t AS y": 2, "SELECT a FROM t WHERE b = 2": 1, "SELECT 1": 0,
		"SELECT a FROM t UNION SELECT a FROM n": 2,
	} {
		f := lowered(t, s, query(t, s))
		if n, lets := met(f, api.FGet), met(f, api.FLet); n != gets || lets != 0 {
			t.Errorf("%s: %d FGets, %d FLets: %s", s, n, lets, describe(f))
		}
	}
	makes(t, "SELECT a FROM t", "2 (1)", "1 (2)")
	makes(t, "SELECT a FROM t WHERE EXISTS (SELECT 1 FROM n)", "2 (1)", "1 (2)")
	makes(t, "SELECT a FROM t WHERE EXISTS (SELECT 1 FROM e)")
}

// met is how many nodes of a kind a plan has.
func met(f api.Flat, kind int) int {
	n := 0
	if f.Kind == kind {
		n++
	}
	for _, kid := range f.Kids {
		n += met(kid, kind)
	}
	return n
}
