package eval_test

import (
	"math/rand/v2"
	"slices"
	"strconv"
	"strings"
	"testing"

	"freshet/api"
	"freshet/datum"
	"freshet/eval"
	"freshet/parse"
	"freshet/plan"
)

// schemas are two tables with columns of all types, those of t never NULL.
func schemas() []api.Schema {
	t, u := api.Schema{Name: "t"}, api.Schema{Name: "u"}
	for kind := api.Bool; kind <= api.Bytes; kind++ {
		t.Cols = append(t.Cols, api.Col{Name: "c" + strconv.Itoa(kind), Type: kind})
		u.Cols = append(u.Cols, api.Col{Name: "c" + strconv.Itoa(kind), Type: kind, Null: true})
	}
	return []api.Schema{t, u}
}

// writer writes queries of which most may be.
type writer struct {
	by   *rand.Rand
	made int // tables in FROMs, each of which has a name of its own
}

// from is a FROM of some tables, with their names added to those that can be named.
func (w *writer) from(names []string, depth int) (string, []string) {
	var s strings.Builder
	s.WriteString(" FROM ")
	for i := range 1 + w.by.IntN(2) {
		w.made++
		name := "x" + strconv.Itoa(w.made)
		names = append(slices.Clip(names), name)
		join := ""
		if i > 0 {
			join = pick(w.by, " JOIN ", " LEFT JOIN ")
		}
		s.WriteString(join + pick(w.by, "t", "u") + " AS " + name)
		if i > 0 {
			s.WriteString(" ON " + w.expr(api.Bool, names, depth-1))
		}
	}
	return s.String(), names
}

// query is one of a column of a type.
func (w *writer) query(kind int, names []string, depth int) string {
	from, inner := w.from(names, depth)
	where := ""
	if chance(w.by, 2) {
		where = " WHERE " + w.expr(api.Bool, inner, depth-1)
	}
	if chance(w.by, 4) {
		key := inner[len(inner)-1] + ".c" + strconv.Itoa(kind)
		aggregate := pick(w.by, "min", "max") + "(" + w.leaf(kind, inner) + ")"
		return "SELECT " + pick(w.by, "coalesce("+key+", "+aggregate+")", aggregate, key) + from + where + " GROUP BY " + key + " HAVING count(" + w.leaf(w.by.IntN(6), inner) + ") < " + w.expr(api.Int, names, depth-1)
	}
	return "SELECT " + w.expr(kind, inner, depth-1) + from + where
}

// leaf is a value, or a column of a table that can be named.
func (w *writer) leaf(kind int, names []string) string {
	if kind != api.Null && len(names) > 0 && !chance(w.by, 3) {
		return pick(w.by, names...) + ".c" + strconv.Itoa(kind)
	}
	return datum.Print(pick(w.by, someValue(w.by, kind), someValue(w.by, kind), null))
}

// expr is an expression of a type.
func (w *writer) expr(kind int, names []string, depth int) string {
	if depth <= 0 || chance(w.by, 6) {
		return w.leaf(kind, names)
	}
	one := func(kind int) string { return w.expr(kind, names, depth-1) }
	alike := func() string { return one(pick(w.by, kind, kind, api.Null, other(kind))) }
	if chance(w.by, 2) {
		switch kind {
		case api.Bool:
			return w.truth(names, depth)
		case api.Int, api.Dec:
			return w.number(kind, names, depth)
		}
	}
	switch w.by.IntN(4) {
	case 0:
		s := "CASE WHEN " + one(api.Bool) + " THEN " + alike()
		if chance(w.by, 2) {
			s += " WHEN " + one(api.Bool) + " THEN " + alike()
		}
		return s + pick(w.by, "", " ELSE "+alike(), " ELSE "+alike()) + " END"
	case 1:
		if kind != api.Null {
			return "(" + w.query(kind, names, depth-1) + ")"
		}
	}
	return "coalesce(" + alike() + pick(w.by, ")", ", "+alike()+")", ", "+alike()+", "+alike()+")")
}

// other is another type that fits one, if there is one.
func other(kind int) int {
	switch kind {
	case api.Int:
		return api.Dec
	case api.Dec:
		return api.Int
	}
	return kind
}

func (w *writer) truth(names []string, depth int) string {
	of := w.by.IntN(6)
	one := func(kind int) string { return "(" + w.expr(kind, names, depth-1) + ")" }
	switch w.by.IntN(6) {
	case 0:
		return "NOT " + one(api.Bool)
	case 1:
		return one(api.Bool) + pick(w.by, " AND ", " OR ") + one(api.Bool)
	case 2:
		return one(of) + pick(w.by, " IS NULL", " IS NOT NULL")
	case 3:
		return "EXISTS (" + w.query(1+w.by.IntN(5), names, depth-1) + ")"
	case 4:
		of = 1 + w.by.IntN(5)
		return one(pick(w.by, of, api.Null, other(of))) + pick(w.by, " IN (", " NOT IN (") + w.query(of, names, depth-1) + ")"
	}
	return one(of) + pick(w.by, " = ", " <> ", " < ", " <= ", " > ", " >= ") + one(pick(w.by, of, api.Null, other(of)))
}

func (w *writer) number(kind int, names []string, depth int) string {
	one := func(kind int) string { return "(" + w.expr(kind, names, depth-1) + ")" }
	switch w.by.IntN(5) {
	case 0:
		return "-" + one(kind)
	case 1:
		return "abs(" + one(kind) + ")"
	case 2:
		return "length(" + one(pick(w.by, api.Text, api.Bytes, api.Null)) + ")"
	}
	return one(kind) + pick(w.by, " + ", " - ", " * ", " / ") + one(pick(w.by, kind, other(kind), api.Null))
}

// eachExpr calls see with all expressions of a typed query that a writer wrote, those of its subqueries too, and the columns of their scopes.
func eachExpr(r api.Rel, scopes [][]api.Col, see func(api.Expr, [][]api.Col)) {
	var cols []api.Col
	for _, kid := range r.Kids {
		eachExpr(kid, scopes, see)
		cols = append(cols, kid.Cols...)
	}
	inner := append([][]api.Col{cols}, scopes...)
	l := slices.Clone(r.Exprs)
	for _, agg := range r.Aggs {
		l = append(l, agg.Args...)
	}
	for _, e := range l {
		eachPart(e, inner, see)
	}
}

func eachPart(e api.Expr, scopes [][]api.Col, see func(api.Expr, [][]api.Col)) {
	see(e, scopes)
	for _, kid := range e.Kids {
		eachPart(kid, scopes, see)
	}
	for _, sub := range e.Subs {
		eachExpr(sub, scopes, see)
	}
}

// someSubs are values that an expression's subqueries may have.
func someSubs(by *rand.Rand, e api.Expr) []api.Datum {
	switch e.Kind {
	case api.EExists, api.EScalar, api.EIn:
		return []api.Datum{typedValue(by, e.Type, e.Null)}
	}
	var l []api.Datum
	for _, kid := range e.Kids {
		l = append(l, someSubs(by, kid)...)
	}
	return l
}

// typedValue is one of a type, or NULL, if it may be.
func typedValue(by *rand.Rand, kind int, mayBeNull bool) api.Datum {
	if mayBeNull && chance(by, 3) {
		return null
	}
	return someValue(by, kind)
}

// mustFit asks that what an expression is worth is NULL, if it may be, or of its type, or ErrEval; and tells what it was.
func mustFit(t *testing.T, by *rand.Rand, s string, e api.Expr, scopes [][]api.Col) outcome {
	t.Helper()
	env := make([]api.Row, len(scopes))
	for i, cols := range scopes {
		for _, c := range cols {
			env[i] = append(env[i], typedValue(by, c.Type, c.Null))
		}
	}
	subs := someSubs(by, e)
	d, bad := eval.Value(e, env, subs...)
	switch {
	case bad == api.ErrEval && d == null:
	case bad == api.OK && d.Kind == api.Null && e.Null:
	case bad == api.OK && d.Kind == e.Type && d.Kind != api.Null && datum.Right(d):
	default:
		t.Fatalf("%s: %s, of the type %d (NULL: %v), on %v, %v: %v, error %d", s, show(e), e.Type, e.Null, env, subs, d, bad)
	}
	return outcome{api.Datum{Kind: d.Kind}, bad}
}

// P7.2: what plan.Check made is worth, on rows of its scopes' types, NULL, or something of its type, or ErrEval; NULL only, if it may be.
func TestTypes(t *testing.T) {
	found, ops, queries := map[outcome]int{}, map[int]int{}, 0
	for seed := range uint64(6000) {
		w := &writer{by: lot(seed)}
		s := w.query(1+w.by.IntN(5), nil, 2+int(seed%5))
		tree, bad, _ := parse.Parse(s)
		if bad != api.OK {
			continue // too long or too deep
		}
		c, bad := plan.Check(schemas(), tree)
		if bad == api.ErrType {
			continue // of NULLs alone, where a type must be known
		}
		if bad != api.OK {
			t.Fatalf("%s: error %d", s, bad)
		}
		queries++
		eachExpr(c.Rel, nil, func(e api.Expr, scopes [][]api.Col) {
			if e.Kind == api.ECall {
				ops[e.Op]++
			}
			for range 3 {
				found[mustFit(t, w.by, s, e, scopes)]++
			}
		})
	}
	for op := api.OpNeg; op <= api.OpDec; op++ {
		if ops[op] < 100 {
			t.Errorf("operator %d was met %d times", op, ops[op])
		}
	}
	for kind := api.Null; kind <= api.Bytes; kind++ {
		if n := found[outcome{api.Datum{Kind: kind}, api.OK}]; n < 1000 {
			t.Errorf("a value of kind %d was met %d times", kind, n)
		}
	}
	if n := found[outcome{null, api.ErrEval}]; n < 1000 || queries < 2000 {
		t.Errorf("%d queries, %d errors", queries, n)
	}
}

// P7.2: of statements as they are written: what a column's expression is worth on a row.
func TestChecked(t *testing.T) {
	row := api.Row{yes, integer(7), decimal(15000), text("aß"), octets("\x00")}
	nulls := make(api.Row, 5)
	for _, x := range []struct {
		s    string
		want api.Datum
	}{
		{"t.c2 / 2", integer(3)}, {"t.c2 / 2.0", decimal(35000)}, {"t.c2 + t.c3", decimal(85000)}, {"-t.c2", integer(-7)}, {"abs(-t.c3)", decimal(15000)}, {"length(t.c4) + length(t.c5)", integer(3)},
		{"t.c2 > t.c3 AND t.c1", yes}, {"u.c1 AND t.c1", null}, {"u.c1 AND NOT t.c1", no}, {"u.c1 OR t.c1", yes}, {"u.c2 IS NULL", yes}, {"t.c2 IS NULL", no}, {"u.c2 IS NOT NULL", no},
		{"CASE WHEN u.c1 THEN 1 WHEN t.c1 THEN t.c3 ELSE 2 END", decimal(15000)}, {"CASE WHEN t.c1 THEN t.c2 ELSE t.c3 END", decimal(70000)}, {"CASE WHEN NOT t.c1 THEN 1 / 0 END", null}, {"CASE WHEN u.c1 THEN 'a' ELSE t.c4 END", text("aß")},
		{"coalesce(u.c2, t.c3)", decimal(15000)}, {"coalesce(t.c2, 1.5)", decimal(70000)}, {"coalesce(u.c5, u.c5)", null}, {"coalesce(u.c5, t.c5)", octets("\x00")},
	} {
		c, bad := check("SELECT " + x.s + " FROM t, u")
		if bad != api.OK {
			t.Fatalf("%s: error %d", x.s, bad)
		}
		gives(t, x.want, c.Rel.Exprs[0], []api.Row{slices.Concat(row, nulls)})
	}
	c, bad := check("SELECT (SELECT max(u.c2) FROM u WHERE u.c2 < t.c2 + CASE WHEN EXISTS (SELECT 1) THEN 1 ELSE (SELECT 2) END) FROM t")
	if bad != api.OK {
		t.Fatalf("error %d", bad)
	}
	gives(t, integer(5), c.Rel.Exprs[0], []api.Row{row}, integer(5))
	where := c.Rel.Exprs[0].Subs[0].Kids[0].Kids[0].Exprs[0]
	env := []api.Row{{null, integer(8), null, null, null}, row}
	gives(t, no, where, env, yes, null)
	gives(t, yes, where, env, no, integer(2))
	gives(t, null, where, env, no, null)
	gives(t, null, where, []api.Row{nulls, row}, yes, integer(2))
}

func check(s string) (api.Checked, api.Errno) {
	tree, bad, _ := parse.Parse(s)
	if bad != api.OK {
		return api.Checked{}, bad
	}
	return plan.Check(schemas(), tree)
}
