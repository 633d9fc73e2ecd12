package plan_test

import (
	"math/rand/v2"
	"reflect"
	"slices"
	"testing"

	"freshet/api"
	"freshet/datum"
)

// judge holds a typed query against what is said of each kind: it finds anew, from what stands below, which types and columns there must be.
type judge struct {
	t       *testing.T
	s       string // of which statement it is
	schemas []api.Schema
	by      *rand.Rand
}

// mustBeRight asks that what was checked of a statement is right in itself (P6.8, R2).
func mustBeRight(t *testing.T, s string, c api.Checked) {
	t.Helper()
	judge{t, s, schemas(), lot(uint64(len(s)))}.rel(c.Rel, nil)
	if !reflect.DeepEqual(c.Cols, c.Rel.Cols) {
		t.Errorf("%q: columns %v; the query has %v", s, c.Cols, c.Rel.Cols)
	}
}

func (j judge) must(is bool, what string, of any) {
	j.t.Helper()
	if !is {
		j.t.Fatalf("%q: %s: %+v", j.s, what, of)
	}
}

// rel looks at a query within scopes, the innermost first.
func (j judge) rel(r api.Rel, scopes [][]api.Col) {
	j.t.Helper()
	kids := map[int]int{api.RGet: 0, api.ROne: 0, api.RFilter: 1, api.RMap: 1, api.RJoin: 2, api.RGroup: 1, api.RDistinct: 1, api.RUnion: 2, api.RExcept: 2, api.RInter: 2, api.RTop: 1}
	n, known := kids[r.Kind]
	j.must(known && len(r.Kids) == n, "a wrong number of kids", r)
	for i, kid := range r.Kids {
		in := scopes
		if i == 1 && r.Lateral {
			in = within(r.Kids[0].Cols, scopes)
		}
		j.rel(kid, in)
	}
	j.fields(r)
	want := j.cols(r, scopes)
	j.must(len(want) == len(r.Cols) && (len(want) == 0 || reflect.DeepEqual(want, r.Cols)), "wrong columns", r)
}

func within(cols []api.Col, scopes [][]api.Col) [][]api.Col {
	return append([][]api.Col{cols}, scopes...)
}

// fields asks that nothing is there that a kind does not have.
func (j judge) fields(r api.Rel) {
	j.t.Helper()
	kind := r.Kind
	r.Kind, r.Cols, r.Kids = 0, nil, nil
	switch kind {
	case api.RGet:
		r.Name = ""
	case api.RFilter, api.RMap:
		r.Exprs = nil
	case api.RJoin:
		r.Exprs, r.Flag, r.Lateral = nil, false, false
	case api.RGroup:
		r.Exprs, r.Aggs, r.Flag = nil, nil, false
	case api.RTop:
		r.Nums, r.Desc, r.Limit = nil, nil, 0
	}
	j.must(reflect.DeepEqual(r, api.Rel{}), "a field that the kind does not have", r)
}

// cols are the columns that a query must have; its expressions are looked at.
func (j judge) cols(r api.Rel, scopes [][]api.Col) []api.Col {
	j.t.Helper()
	switch r.Kind {
	case api.RGet:
		i := slices.IndexFunc(j.schemas, func(s api.Schema) bool { return s.Name == r.Name })
		j.must(i >= 0, "no table", r)
		return j.schemas[i].Cols
	case api.ROne:
		return nil
	case api.RJoin:
		return j.join(r, scopes)
	case api.RUnion, api.RExcept, api.RInter:
		return j.set(r)
	}
	below := r.Kids[0].Cols
	switch r.Kind {
	case api.RFilter:
		j.must(len(r.Exprs) == 1, "not one expression", r)
		j.condition(r.Exprs[0], within(below, scopes))
	case api.RMap:
		return j.mapped(r, within(below, scopes))
	case api.RGroup:
		return j.group(r, within(below, scopes))
	case api.RTop:
		j.must(len(r.Nums) == len(r.Desc) && r.Limit >= 0 && r.Limit <= api.MaxLimit, "wrong keys", r)
		for _, n := range r.Nums {
			j.must(n >= 0 && n < len(below), "a wrong key", r)
		}
	}
	return below
}

func (j judge) join(r api.Rel, scopes [][]api.Col) []api.Col {
	j.t.Helper()
	left, right := r.Kids[0].Cols, slices.Clone(r.Kids[1].Cols)
	j.must(len(r.Exprs) == 1, "not one expression", r)
	j.condition(r.Exprs[0], within(slices.Concat(left, right), scopes))
	for i := range right {
		right[i].Null = right[i].Null || r.Flag
	}
	return slices.Concat(left, right)
}

func (j judge) set(r api.Rel) []api.Col {
	j.t.Helper()
	left, right := slices.Clone(r.Kids[0].Cols), r.Kids[1].Cols
	j.must(len(left) == len(right), "not as many columns", r)
	for i := range left {
		j.must(left[i].Type == right[i].Type, "other types", r)
		left[i].Null = left[i].Null || r.Kind == api.RUnion && right[i].Null
	}
	return left
}

func (j judge) mapped(r api.Rel, scopes [][]api.Col) []api.Col {
	j.t.Helper()
	j.must(0 < len(r.Exprs) && len(r.Exprs) <= api.MaxCols && len(r.Cols) == len(r.Exprs), "a wrong number of columns", r)
	var l []api.Col
	for i, e := range r.Exprs {
		j.top(e, scopes)
		j.must(e.Type != api.Null && r.Cols[i].Name != "", "no type, or no name", r)
		l = append(l, api.Col{Name: r.Cols[i].Name, Type: e.Type, Null: e.Null})
	}
	return l
}

func (j judge) group(r api.Rel, scopes [][]api.Col) []api.Col {
	j.t.Helper()
	j.must(r.Flag == (len(r.Exprs) == 0), "a wrong Flag", r)
	var l []api.Col
	for _, e := range r.Exprs {
		j.top(e, scopes)
		j.must(e.Kind == api.ECol && e.Level == 0, "no key", e)
		l = append(l, scopes[0][e.Col])
	}
	for _, a := range r.Aggs {
		n := 1
		if a.Fn == api.AggRows {
			n = 0
		}
		j.must(1 <= a.Fn && a.Fn <= 5 && len(a.Args) == n, "no aggregate", a)
		col := api.Col{Type: api.Int}
		for _, e := range a.Args {
			j.top(e, scopes)
			if a.Fn != api.AggCount {
				j.must(e.Type != api.Null && (a.Fn != api.AggSum || number(e.Type)), "a wrong argument", a)
				col = api.Col{Type: e.Type, Null: true}
			}
		}
		j.must(a.Type == col.Type, "a wrong type", a)
		l = append(l, col)
	}
	return l
}

// condition looks at an expression that must be a condition.
func (j judge) condition(e api.Expr, scopes [][]api.Col) {
	j.t.Helper()
	j.top(e, scopes)
	j.must(e.Type == api.Bool || e.Type == api.Null, "no condition", e)
}

// top looks at an expression, and what it is worth on some rows.
func (j judge) top(e api.Expr, scopes [][]api.Col) {
	j.t.Helper()
	j.expr(e, scopes)
	for range 4 {
		env := make([][]api.Datum, len(scopes))
		for i, cols := range scopes {
			for _, col := range cols {
				env[i] = append(env[i], someValue(j.by, col.Type, col.Null))
			}
		}
		j.worth(e, env)
	}
}

func number(kind int) bool { return kind == api.Int || kind == api.Dec }

func fits(a, b int) bool { return a == 0 || b == 0 || a == b || number(a) && number(b) }

// expr asks that an expression has the type that it must have, and can be NULL just if it must be able to.
func (j judge) expr(e api.Expr, scopes [][]api.Col) {
	j.t.Helper()
	for _, kid := range e.Kids {
		j.expr(kid, scopes)
	}
	for _, sub := range e.Subs {
		j.rel(sub, scopes)
	}
	want := api.Expr{Kind: e.Kind, Kids: e.Kids, Subs: e.Subs}
	kids, subs := 0, 1
	switch e.Kind {
	case api.ELit:
		want.Lit, want.Type, want.Null, subs = e.Lit, e.Lit.Kind, e.Lit.Kind == api.Null, 0
	case api.ECol:
		j.must(0 <= e.Level && e.Level < len(scopes) && 0 <= e.Col && e.Col < len(scopes[e.Level]), "no column", e)
		col := scopes[e.Level][e.Col]
		want.Level, want.Col, want.Type, want.Null, subs = e.Level, e.Col, col.Type, col.Null, 0
	case api.ECall:
		want.Op, kids, subs = e.Op, len(e.Kids), 0
		want.Type, want.Null = j.call(e)
	case api.EExists:
		want.Type = api.Bool
	case api.EScalar:
		want.Type, want.Null = e.Subs[0].Cols[0].Type, true
	case api.EIn:
		want.Type, want.Null, kids = api.Bool, true, 1
		j.must(fits(e.Kids[0].Type, e.Subs[0].Cols[0].Type), "types that do not fit", e)
	}
	j.must(len(e.Kids) == kids && len(e.Subs) == subs && reflect.DeepEqual(e, want), "a wrong expression", e)
	j.must(e.Kind != api.EScalar && e.Kind != api.EIn || len(e.Subs[0].Cols) == 1, "not one column", e)
}

// call is the type of what an operator makes, and whether that may be NULL.
func (j judge) call(e api.Expr) (int, bool) {
	j.t.Helper()
	if e.Op == api.OpCase || e.Op == api.OpCoalesce {
		return j.choice(e)
	}
	null, kind := false, api.Null
	all := func(kinds ...int) bool {
		return !slices.ContainsFunc(e.Kids, func(kid api.Expr) bool { return !slices.Contains(kinds, kid.Type) })
	}
	for _, kid := range e.Kids {
		null, kind = null || kid.Null, max(kind, kid.Type)
	}
	n, is := 2, true
	if slices.Contains([]int{api.OpNeg, api.OpNot, api.OpIsNull, api.OpLength, api.OpAbs, api.OpDec}, e.Op) {
		n = 1
	}
	j.must(len(e.Kids) == n, "an operator of other arguments", e)
	switch {
	case e.Op == api.OpNot || e.Op == api.OpAnd || e.Op == api.OpOr:
		is, kind = all(api.Null, api.Bool), api.Bool
	case e.Op >= api.OpEq && e.Op <= api.OpGe:
		is, kind = fits(e.Kids[0].Type, e.Kids[1].Type), api.Bool
	case e.Op >= api.OpAdd && e.Op <= api.OpDiv, e.Op == api.OpNeg, e.Op == api.OpAbs:
		is = all(api.Null, api.Int, api.Dec) && kind != api.Null
	case e.Op == api.OpIsNull:
		kind, null = api.Bool, false
	case e.Op == api.OpLength:
		is, kind = all(api.Null, api.Text, api.Bytes), api.Int
	case e.Op == api.OpDec:
		is, kind = all(api.Int), api.Dec
	default:
		is = false
	}
	j.must(is, "an operator of other arguments", e)
	return kind, null
}

// choice is that of CASE and coalesce.
func (j judge) choice(e api.Expr) (int, bool) {
	j.t.Helper()
	any, all, kind := false, true, api.Null
	for i, kid := range e.Kids {
		if e.Op == api.OpCase && i%2 == 0 && i < len(e.Kids)-1 {
			j.must(kid.Type == api.Bool || kid.Type == api.Null, "no condition", e)
			continue
		}
		any, all = any || kid.Null, all && kid.Null
		j.must(kid.Type == api.Null || kind == api.Null || kid.Type == kind, "values of more than one type", e)
		kind = max(kind, kid.Type)
	}
	if e.Op == api.OpCoalesce {
		return kind, all
	}
	return kind, any || len(e.Kids)%2 == 0
}

// someValue is one of a type; NULL, too, if it may be, and if there is no type.
func someValue(by *rand.Rand, kind int, null bool) api.Datum {
	n := pick[int64](by, 0, 1, -1, 2, 10000, -15000, 1<<63-1, -1<<63)
	switch {
	case null && chance(by, 3), kind == api.Null:
		return api.Datum{}
	case kind == api.Bool:
		return api.Datum{Kind: kind, I: n & 1}
	case kind == api.Text || kind == api.Bytes:
		return api.Datum{Kind: kind, S: pick(by, "", "a", "ab")}
	}
	return api.Datum{Kind: kind, I: n}
}

// worth is what an expression is worth on rows; false: it has no value. (Of a subquery: any value that it may have.)
func (j judge) worth(e api.Expr, env [][]api.Datum) (api.Datum, bool) {
	j.t.Helper()
	d, is := j.value(e, env)
	if is {
		j.must(d.Kind == e.Type && d.Kind != api.Null || d.Kind == api.Null && e.Null, "worth "+datum.Print(d), e)
	}
	return d, is
}

func (j judge) value(e api.Expr, env [][]api.Datum) (api.Datum, bool) {
	switch e.Kind {
	case api.ELit:
		return e.Lit, true
	case api.ECol:
		return env[e.Level][e.Col], true
	case api.ECall:
		return j.valueOfCall(e, env)
	}
	return someValue(j.by, e.Type, e.Null), true
}

func (j judge) valueOfCall(e api.Expr, env [][]api.Datum) (api.Datum, bool) {
	var args []api.Datum
	for i, kid := range e.Kids {
		d, is := j.worth(kid, env)
		switch {
		case !is:
			return d, false
		case e.Op == api.OpCoalesce && d.Kind != api.Null:
			return d, true
		case e.Op == api.OpCase && i%2 == 0 && i < len(e.Kids)-1 && d == api.Datum{Kind: api.Bool, I: 1}:
			return j.worth(e.Kids[i+1], env)
		case e.Op == api.OpCase && i%2 == 0 && i == len(e.Kids)-1:
			return d, true
		}
		args = append(args, d)
	}
	if e.Op == api.OpCase || e.Op == api.OpCoalesce {
		return api.Datum{}, true
	}
	d, bad := datum.Apply(e.Op, args...)
	j.must(bad == api.OK || bad == api.ErrEval, "wrong arguments of an operator", e)
	return d, bad == api.OK
}
