package lower_test

import (
	"slices"
	"testing"

	"freshet/api"
	"freshet/flat"
	"freshet/parse"
	"freshet/plan"
)

// checked is a typed query of its tree, and its text; false, if it is too deep or too long.
func checked(a api.Ast) (api.Rel, string, bool) {
	c, bad := plan.Check(manySchemas(), a)
	s, _ := parse.Print(a)
	return c.Rel, s, bad == api.OK
}

// someQuery is a typed query that may be, and its text.
func someQuery(seed uint64, depth int) (api.Rel, string, bool) {
	m := &maker{by: lot(seed)}
	return checked(m.query(m.kinds(1+m.by.IntN(3)), nil, nil, depth))
}

// P10.1: of queries and tables as they come the plan makes what the query means, and is an error just if the query is.
func TestSomeQueries(t *testing.T) {
	found, rels, exprs, filled := map[api.Errno]int{}, map[int]int{}, map[int]int{}, 0
	for seed := range uint64(6000) {
		r, s, is := someQuery(seed, 1+int(seed%5))
		if !is {
			continue
		}
		f := lowered(t, s, r)
		for k := range uint64(3) {
			got, bad := mustMakeTheSame(t, s, someTables(lot(seed+(k+1)<<32)), r, f)
			found[bad]++
			if len(got) > 0 {
				filled++
				count(r, rels, exprs)
			}
		}
	}
	for kind := api.RGet; kind <= api.RTop; kind++ {
		if rels[kind] < 150 {
			t.Errorf("kind %d was met %d times", kind, rels[kind])
		}
	}
	for kind := api.ELit; kind <= api.EIn; kind++ {
		if exprs[kind] < 500 {
			t.Errorf("expressions of kind %d were met %d times", kind, exprs[kind])
		}
	}
	if filled < 5000 || found[api.ErrEval] < 1000 {
		t.Errorf("%d with rows, %v", filled, found)
	}
}

// count counts kinds of queries and of expressions.
func count(r api.Rel, rels, exprs map[int]int) {
	l, m := nodes(&r)
	for _, one := range l {
		rels[one.Kind]++
	}
	for _, one := range m {
		exprs[one.Kind]++
	}
}

// P10.2: queries that say the same over each database have plans that make the same.
func TestSameQueries(t *testing.T) {
	filled := 0
	for _, same := range [][]string{
		{"SELECT a FROM t UNION ALL SELECT c FROM u", "SELECT c AS a FROM u UNION ALL SELECT a FROM t"},
		{"SELECT DISTINCT c FROM u", "SELECT c FROM u GROUP BY c", "SELECT c FROM u UNION SELECT c FROM u", "SELECT c FROM u INTERSECT SELECT c FROM u", "SELECT DISTINCT x.c FROM (SELECT DISTINCT c FROM u) AS x"},
		{"SELECT x.a FROM t AS x WHERE EXISTS (SELECT 1 FROM u AS y WHERE y.c = x.a)", "SELECT x.a FROM t AS x WHERE x.a IN (SELECT y.c FROM u AS y)", "SELECT x.a FROM t AS x WHERE (SELECT count(*) FROM u AS y WHERE y.c = x.a) > 0", "SELECT x.a FROM t AS x, LATERAL (SELECT DISTINCT y.c FROM u AS y WHERE y.c = x.a) AS z"},
		{"SELECT x.a FROM t AS x WHERE x.a NOT IN (SELECT y.c FROM u AS y WHERE y.c IS NOT NULL)", "SELECT x.a FROM t AS x WHERE NOT EXISTS (SELECT 1 FROM u AS y WHERE y.c = x.a)", "SELECT x.a FROM t AS x LEFT JOIN u AS y ON y.c = x.a WHERE y.c IS NULL", "SELECT x.a FROM t AS x WHERE (SELECT max(1) FROM u AS y WHERE y.c = x.a) IS NULL"},
		{"SELECT x.b, y.r FROM t AS x, w AS y WHERE x.a = y.r", "SELECT x.b, y.r FROM w AS y JOIN t AS x ON x.a = y.r", "SELECT x.b, y.r FROM t AS x, LATERAL (SELECT r FROM w WHERE r = x.a) AS y", "SELECT x.b, y.r FROM t AS x LEFT JOIN w AS y ON x.a = y.r WHERE y.r IS NOT NULL"},
		{"SELECT count(*) FROM u", "SELECT (SELECT count(*) FROM u)", "SELECT sum(n.c) FROM (SELECT count(*) AS c FROM u) AS n", "SELECT coalesce(sum(1), 0) FROM u", "SELECT count(x.c) FROM (SELECT 1 AS c FROM u) AS x"},
		{"SELECT x.a, (SELECT sum(y.r) FROM w AS y WHERE y.r = x.a) FROM t AS x", "SELECT x.a, z.c FROM t AS x, LATERAL (SELECT sum(y.r) AS c FROM w AS y WHERE y.r = x.a) AS z", "SELECT x.a, z.c FROM t AS x LEFT JOIN (SELECT y.r AS r, sum(y.r) AS c FROM w AS y GROUP BY y.r) AS z ON z.r = x.a"},
		{"SELECT c FROM u EXCEPT SELECT a FROM t", "SELECT DISTINCT c FROM u EXCEPT ALL SELECT DISTINCT a FROM t", "SELECT DISTINCT x.c FROM u AS x WHERE NOT EXISTS (SELECT 1 FROM t AS y WHERE y.a = x.c)"},
		{"SELECT max(r) FROM w", "SELECT (SELECT r FROM w WHERE r IS NOT NULL ORDER BY r DESC LIMIT 1)", "SELECT DISTINCT x.m FROM (SELECT max(r) AS m FROM w) AS x"},
		{"SELECT x.a FROM t AS x WHERE EXISTS (SELECT 1 FROM u AS y, w AS z WHERE y.c = x.a AND z.r = y.c)", "SELECT x.a FROM t AS x WHERE EXISTS (SELECT 1 FROM u AS y WHERE y.c = x.a AND EXISTS (SELECT 1 FROM w AS z WHERE z.r = y.c))", "SELECT x.a FROM t AS x WHERE x.a IN (SELECT y.c FROM u AS y WHERE y.c IN (SELECT z.r FROM w AS z))"},
	} {
		var plans []api.Flat
		for _, s := range same {
			tree, bad, at := parse.Parse(s)
			r, s, is := checked(tree)
			if bad != api.OK || !is {
				t.Fatalf("%s: error %d at %d", s, bad, at)
			}
			plans = append(plans, lowered(t, s, r))
		}
		for seed := range uint64(100) {
			db := someTables(lot(seed + 1<<40))
			want, why := flat.Eval(db, plans[0])
			for i, f := range plans {
				if got, bad := flat.Eval(db, f); bad != why || !slices.Equal(show(got), show(want)) {
					t.Fatalf("%s over %v: %.500s, error %d; of %s: %.500s, error %d", same[i], db, show(got), bad, same[0], show(want), why)
				}
			}
			if len(want) > 0 {
				filled++
			}
		}
	}
	if filled < 500 {
		t.Errorf("%d with rows", filled)
	}
}
