package mean_test

import (
	"testing"

	"freshet/api"
	"freshet/mean"
)

// P8.1: an expression is evaluated on each row, and on no other; if it has no value there, the query is an error, whatever would become of the row.
func TestErrors(t *testing.T) {
	fails(t,
		"SELECT 1 / 0", "SELECT 6 / (a - 2) FROM n", "SELECT a FROM n WHERE 6 / (a - 2) > 0", "SELECT 1 FROM n WHERE 1 / 0 = 1",
		"SELECT x.a FROM n AS x JOIN n AS y ON 1 / (x.a - y.a) = 1", "SELECT x.a FROM n AS x LEFT JOIN n AS y ON 1 / (x.a - y.a) = 1", "SELECT x.a FROM n AS x, n AS y WHERE 1 / (x.a - y.a) = 1",
		"SELECT count(1 / (a - 2)) FROM n", "SELECT sum(1 / (a - 2)) FROM n", "SELECT min(1 / (a - 2)) FROM n", "SELECT max(1 / (a - 2)) FROM n",
		"SELECT count(*) FROM n GROUP BY a HAVING 1 / (a - 2) = 1", "SELECT 1 / (count(*) - 3) FROM n", "SELECT 1 FROM n HAVING 1 / (count(*) - 3) = 1",
		"SELECT DISTINCT 1 / 0 FROM n", "SELECT 1 UNION SELECT 1 / 0", "SELECT 1 / 0 UNION ALL SELECT 1", "SELECT 1 EXCEPT SELECT 1 / 0", "SELECT 1 / 0 EXCEPT ALL SELECT 1",
		"SELECT 1 INTERSECT SELECT 1 / 0", "SELECT 1 / 0 INTERSECT ALL SELECT 1", "SELECT a FROM e INTERSECT SELECT 1 / 0", "SELECT a FROM e EXCEPT ALL SELECT 1 / 0",
		"SELECT 1 / 0 LIMIT 0", "SELECT 1 / (a - 3) AS c FROM n ORDER BY c LIMIT 1", "SELECT 1 FROM n WHERE EXISTS (SELECT 1 / 0)", "SELECT 9223372036854775807 + a FROM n", "SELECT a * 922337203685477.5807 FROM t",
		"SELECT 1 FROM (SELECT 1 / 0 AS a) AS x WHERE FALSE", "SELECT c.b FROM (SELECT a AS b, 1 / 0 AS d FROM n) AS c")
	means(t, "SELECT 6 / (a - 2) FROM n WHERE a <> 2", "1 (-6)", "1 (6)")
	means(t, "SELECT a FROM n WHERE a <> 2 AND 6 / (a - 2) > 0", "1 (3)")
	means(t, "SELECT x.a FROM n AS x JOIN n AS y ON x.a < y.a AND 1 / (x.a - y.a) = -1", "1 (1)", "1 (2)")
	means(t, "SELECT sum(1 / (a - 2)) FROM n WHERE a > 2", "1 (1)")
	means(t, "SELECT 1 / a, 1 / 0 FROM e")
	means(t, "SELECT a FROM e WHERE 1 / 0 = 1")
	means(t, "SELECT count(1 / 0) FROM e", "1 (0)")
	means(t, "SELECT a FROM e GROUP BY a HAVING 1 / 0 = 1")
	means(t, "SELECT x.a FROM n AS x LEFT JOIN e AS y ON 1 / 0 = 1", "1 (1)", "1 (2)", "1 (3)")
	means(t, "SELECT b / 0 FROM t WHERE b IS NULL", "1 (NULL)")
}

// P8.1: both sides of a join are meant once, rows or not; the right one of a lateral join within each row of the left one alone.
func TestErrorsInJoins(t *testing.T) {
	fails(t,
		"SELECT 1 FROM e, (SELECT 1 / 0 AS c) AS x", "SELECT 1 FROM e JOIN (SELECT 1 / 0 AS c) AS x ON TRUE", "SELECT 1 FROM e LEFT JOIN (SELECT 1 / 0 AS c) AS x ON TRUE",
		"SELECT 1 FROM (SELECT 1 / 0 AS c) AS x, e", "SELECT 1 FROM (SELECT 1 / 0 AS c) AS x LEFT JOIN e ON TRUE", "SELECT 1 FROM (SELECT 1 / 0 AS c) AS x, LATERAL (SELECT 1 AS d) AS y",
		"SELECT 1 FROM n, LATERAL (SELECT 1 / (a - 2) AS c) AS x WHERE a = 1", "SELECT 1 FROM n LEFT JOIN LATERAL (SELECT 1 / (a - 2) AS c) AS x ON FALSE",
		"SELECT 1 FROM e, (SELECT (SELECT a FROM n) AS c) AS x", "SELECT 1 FROM n, LATERAL (SELECT 1 AS c FROM e, (SELECT 1 / 0 AS d) AS y) AS x")
	means(t, "SELECT 1 FROM e, LATERAL (SELECT 1 / 0 AS c) AS x")
	means(t, "SELECT 1 FROM e JOIN LATERAL (SELECT 1 / 0 AS c) AS x ON TRUE")
	means(t, "SELECT 1 FROM e LEFT JOIN LATERAL (SELECT 1 / 0 AS c) AS x ON TRUE")
	means(t, "SELECT x.c FROM (SELECT a FROM n WHERE a <> 2) AS m, LATERAL (SELECT 1 / (a - 2) AS c) AS x", "1 (-1)", "1 (1)")
	means(t, "SELECT 1 FROM e, LATERAL (SELECT y.d FROM (SELECT 1 / 0 AS d) AS y) AS x")
}

// R2, R6: behind an error nothing of it is left, and the same is told again, whatever was asked between.
func TestAgain(t *testing.T) {
	for range 3 {
		fails(t, "SELECT a FROM n UNION ALL SELECT 1 / 0", "SELECT (SELECT a FROM n)")
		means(t, "SELECT a FROM n", "1 (1)", "1 (2)", "1 (3)")
		means(t, "SELECT x.a FROM n AS x WHERE EXISTS (SELECT 1 FROM t WHERE t.a = x.a)", "1 (1)", "1 (2)")
		meansIn(t, nil, "SELECT 1", "1 (1)")
	}
}

// R1: a query that has not what its kind asks for, over tables that are there or not, ends in an error, at most.
func TestWhatIsNotMeant(t *testing.T) {
	one := api.Rel{Kind: api.ROne}
	get := api.Rel{Kind: api.RGet, Name: "n", Cols: schemas()[2].Cols}
	lit, col := api.Expr{Kind: api.ELit, Lit: integer(1)}, api.Expr{Kind: api.ECol}
	sub := func(kind int, kids []api.Expr, subs ...api.Rel) api.Rel {
		return api.Rel{Kind: api.RMap, Exprs: []api.Expr{{Kind: kind, Kids: kids, Subs: subs}}, Kids: []api.Rel{one}}
	}
	agg := func(fn int, args ...api.Expr) api.Rel {
		return api.Rel{Kind: api.RGroup, Aggs: []api.Agg{{Fn: fn, Args: args}}, Kids: []api.Rel{get}, Flag: true}
	}
	for i, r := range []api.Rel{
		{}, {Kind: -1}, {Kind: api.RTop + 1}, {Kind: api.RGet}, {Kind: api.RGet, Name: "nosuch"},
		{Kind: api.RFilter}, {Kind: api.RFilter, Kids: []api.Rel{one}}, {Kind: api.RFilter, Exprs: []api.Expr{lit}}, {Kind: api.RFilter, Kids: []api.Rel{one}, Exprs: []api.Expr{{}}}, {Kind: api.RFilter, Kids: []api.Rel{one}, Exprs: []api.Expr{col}},
		{Kind: api.RMap}, {Kind: api.RMap, Kids: []api.Rel{one}, Exprs: []api.Expr{col}}, {Kind: api.RMap, Kids: []api.Rel{get}, Exprs: []api.Expr{{Kind: api.ECol, Level: 1}}}, {Kind: api.RMap, Kids: []api.Rel{get}, Exprs: []api.Expr{{Kind: api.ECol, Level: -1}}},
		{Kind: api.RMap, Kids: []api.Rel{get}, Exprs: []api.Expr{{Kind: api.ECall, Op: api.OpNot, Kids: []api.Expr{col}}}}, {Kind: api.RMap, Kids: []api.Rel{get}, Exprs: []api.Expr{{Kind: api.ECall, Op: 99}}},
		{Kind: api.RJoin}, {Kind: api.RJoin, Kids: []api.Rel{get}}, {Kind: api.RJoin, Kids: []api.Rel{get, get}}, {Kind: api.RJoin, Kids: []api.Rel{get}, Lateral: true}, {Kind: api.RJoin, Kids: []api.Rel{get, {}}, Exprs: []api.Expr{lit}},
		{Kind: api.RGroup}, {Kind: api.RGroup, Kids: []api.Rel{get}, Exprs: []api.Expr{{}}}, agg(0), agg(-1, col), agg(api.AggMax+1, col), agg(api.AggCount), agg(api.AggSum), agg(api.AggMin), agg(api.AggMax), agg(api.AggSum, api.Expr{}),
		{Kind: api.RDistinct}, {Kind: api.RUnion}, {Kind: api.RUnion, Kids: []api.Rel{one}}, {Kind: api.RExcept}, {Kind: api.RExcept, Kids: []api.Rel{one}}, {Kind: api.RInter}, {Kind: api.RInter, Kids: []api.Rel{one}},
		{Kind: api.RTop}, {Kind: api.RTop, Kids: []api.Rel{get}, Limit: 1, Nums: []int{1}, Desc: []bool{true}}, {Kind: api.RTop, Kids: []api.Rel{get}, Limit: 1, Nums: []int{-1}, Desc: []bool{true}}, {Kind: api.RTop, Kids: []api.Rel{get}, Limit: 1, Nums: []int{0}},
		sub(0, nil), sub(99, nil, one), sub(api.EExists, nil), sub(api.EScalar, nil), sub(api.EIn, nil), sub(api.EIn, []api.Expr{lit}), sub(api.EIn, nil, get), sub(api.EScalar, nil, one), sub(api.EIn, []api.Expr{lit}, one), sub(api.EExists, nil, api.Rel{}),
		sub(api.EIn, []api.Expr{{Kind: api.ELit, Lit: yes}}, get), sub(api.EIn, []api.Expr{{Kind: api.ELit, Lit: api.Datum{Kind: 9}}}, get),
	} {
		if got, bad := mean.Mean(database(), r); bad != api.ErrEval || len(got) != 0 {
			t.Errorf("%d: %.300s, error %d", i, show(got), bad)
		}
	}
	strange := []api.Filled{table("n", times(1), times(2, integer(1), integer(2)), times(3, api.Datum{Kind: -1}), times(1, text("\xff")))}
	for _, r := range []api.Rel{
		get, {Kind: api.RFilter, Exprs: []api.Expr{col}, Kids: []api.Rel{get}}, {Kind: api.RMap, Exprs: []api.Expr{col}, Kids: []api.Rel{get}}, {Kind: api.RJoin, Exprs: []api.Expr{{Kind: api.ELit, Lit: yes}}, Kids: []api.Rel{get, get}}, {Kind: api.RJoin, Flag: true, Exprs: []api.Expr{lit}, Kids: []api.Rel{get, get}},
		{Kind: api.RTop, Limit: -1, Kids: []api.Rel{get}}, {Kind: api.RTop, Limit: 9, Nums: []int{0}, Desc: []bool{false}, Kids: []api.Rel{get}}, {Kind: api.RDistinct, Kids: []api.Rel{get}}, agg(api.AggSum, col), agg(api.AggMin, lit), {Kind: api.RGroup, Flag: true, Exprs: []api.Expr{col}, Kids: []api.Rel{get}},
		sub(api.EExists, nil, get), sub(api.EScalar, nil, get), sub(api.EIn, []api.Expr{lit}, get),
	} {
		if got, bad := mean.Mean(strange, r); bad != api.OK && (bad != api.ErrEval || len(got) != 0) {
			t.Errorf("%.300s, error %d", show(got), bad)
		}
	}
}
