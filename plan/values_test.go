package plan_test

import (
	"math/rand/v2"
	"reflect"
	"strconv"
	"strings"
	"testing"

	"freshet/api"
	"freshet/datum"
	"freshet/parse"
	"freshet/plan"
)

// schemas are t (a INT NOT NULL, b TEXT) and u (a DEC), as the chapter has them, and such with the other types.
func schemas() []api.Schema {
	return []api.Schema{
		{Name: "t", Cols: []api.Col{{Name: "a", Type: api.Int}, {Name: "b", Type: api.Text, Null: true}}},
		{Name: "u", Cols: []api.Col{{Name: "a", Type: api.Dec, Null: true}}},
		{Name: "w", Cols: []api.Col{{Name: "p", Type: api.Bool}, {Name: "q", Type: api.Bytes}, {Name: "r", Type: api.Int, Null: true}, {Name: "s", Type: api.Dec}}},
		{Name: "wide", Cols: many(api.MaxCols)},
	}
}

// many are INT columns c1, c2, ..
func many(n int) []api.Col {
	var l []api.Col
	for i := range n {
		l = append(l, api.Col{Name: "c" + strconv.Itoa(i+1), Type: api.Int})
	}
	return l
}

// tree is a statement's, that must be one.
func tree(t *testing.T, s string) api.Ast {
	t.Helper()
	a, bad, at := parse.Parse(s)
	if bad != api.OK {
		t.Fatalf("%q: error %d at %d", s, bad, at)
	}
	return a
}

// checked asks that a statement is taken.
func checked(t *testing.T, s string) api.Checked {
	t.Helper()
	c, bad := plan.Check(schemas(), tree(t, s))
	if bad != api.OK {
		t.Errorf("%q: error %d", s, bad)
	}
	return c
}

// means asks that a query is this typed one, as show writes it.
func means(t *testing.T, s, want string) {
	t.Helper()
	c := checked(t, s)
	if got := show(c.Rel); got != want {
		t.Errorf("%q:\n%s; want\n%s", s, got, want)
	}
	if got := showCols(c.Cols); got != showCols(c.Rel.Cols) {
		t.Errorf("%q: the columns %s; want %s", s, got, showCols(c.Rel.Cols))
	}
	mustBeRight(t, s, c)
}

// worth asks that an expression, as a query's only item, is this typed one.
func worth(t *testing.T, from, s, want string) {
	t.Helper()
	s = "SELECT " + s + " FROM " + from
	c := checked(t, s)
	if len(c.Rel.Exprs) != 1 || showExpr(c.Rel.Exprs[0]) != want {
		t.Errorf("%q:\n%s; want\n%s", s, showExprs(c.Rel.Exprs), want)
	}
	mustBeRight(t, s, c)
}

// refuses asks that all of some statements have an error, and nothing else.
func refuses(t *testing.T, want api.Errno, l ...string) {
	t.Helper()
	for _, s := range l {
		refusesTree(t, s, schemas(), tree(t, s), want)
	}
}

func refusesTree(t *testing.T, s string, schemas []api.Schema, a api.Ast, want api.Errno) {
	t.Helper()
	got, bad := plan.Check(schemas, a)
	if bad != want || !reflect.DeepEqual(got, api.Checked{}) {
		t.Errorf("%.200q: %v, error %d; want error %d", s, got, bad, want)
	}
}

func typeName(kind int) string {
	if kind < 0 || kind > api.Bytes {
		return strconv.Itoa(kind)
	}
	return []string{"NONE", "BOOL", "INT", "DEC", "TEXT", "BYTES"}[kind]
}

// showType is a type, with a ? if it may be NULL.
func showType(kind int, null bool) string {
	if null {
		return typeName(kind) + "?"
	}
	return typeName(kind)
}

func showCols(l []api.Col) string {
	return "[" + joined(l, ", ", func(c api.Col) string { return strings.TrimSpace(c.Name + " " + showType(c.Type, c.Null)) }) + "]"
}

func joined[T any](l []T, between string, one func(T) string) string {
	var texts []string
	for _, x := range l {
		texts = append(texts, one(x))
	}
	return strings.Join(texts, between)
}

// opNames are the operators' names, from OpNeg on.
func opNames() []string {
	return strings.Fields("neg not + - * / = <> < <= > >= and or isnull case coalesce length abs dec")
}

func showExprs(l []api.Expr) string { return joined(l, ", ", showExpr) }

// showExpr writes an expression: a column as its Level and Col.
func showExpr(e api.Expr) string {
	kind, kids := ":"+showType(e.Type, e.Null), "("+showExprs(e.Kids)+")"
	switch e.Kind {
	case api.ELit:
		return datum.Print(e.Lit)
	case api.ECol:
		return strconv.Itoa(e.Level) + "." + strconv.Itoa(e.Col) + kind
	case api.ECall:
		return opNames()[e.Op-1] + kind + kids
	case api.EExists:
		return "exists" + kind + showSubs(e)
	case api.EScalar:
		return "scalar" + kind + showSubs(e)
	case api.EIn:
		return "in" + kind + kids + showSubs(e)
	}
	return "?"
}

func showSubs(e api.Expr) string { return "{" + joined(e.Subs, ", ", show) + "}" }

func showAgg(a api.Agg) string {
	return strings.Fields("- rows count sum min max")[a.Fn] + ":" + typeName(a.Type) + "(" + showExprs(a.Args) + ")"
}

// show writes a typed query: its kind, what it has, its columns, its Kids.
func show(r api.Rel) string {
	s := ""
	switch r.Kind {
	case api.RGet:
		s = "get " + r.Name
	case api.ROne:
		return "one"
	case api.RFilter:
		return "filter(" + showExprs(r.Exprs) + ")" + showKids(r)
	case api.RMap:
		s = "map(" + showExprs(r.Exprs) + ")"
	case api.RJoin:
		s = "join"
		if r.Flag {
			s = "left"
		}
		if r.Lateral {
			s += " lateral"
		}
		return s + "(" + showExprs(r.Exprs) + ")" + showKids(r)
	case api.RGroup:
		s = "group"
		if r.Flag {
			s = "all"
		}
		s += "(" + showExprs(r.Exprs) + "; " + joined(r.Aggs, ", ", showAgg) + ")"
	case api.RDistinct:
		return "distinct" + showKids(r)
	case api.RUnion, api.RExcept, api.RInter:
		s = strings.Fields("union except inter")[r.Kind-api.RUnion]
	case api.RTop:
		s = "top " + strconv.Itoa(r.Limit)
		for i, n := range r.Nums {
			s += " " + strconv.Itoa(n)
			if r.Desc[i] {
				s += "-"
			}
		}
		return s + showKids(r)
	}
	return s + showCols(r.Cols) + showKids(r)
}

func showKids(r api.Rel) string {
	if len(r.Kids) == 0 {
		return ""
	}
	return "{" + joined(r.Kids, ", ", show) + "}"
}

// lot draws numbers, the same ones at each run.
func lot(seed uint64) *rand.Rand { return rand.New(rand.NewPCG(6, seed)) }

func chance(by *rand.Rand, n int) bool { return by.IntN(n) == 0 }

func pick[T any](by *rand.Rand, l ...T) T { return l[by.IntN(len(l))] }
