package lower_test

import (
	"testing"

	"freshet/api"
)

// P10.1: an expression is evaluated on each row, and on no other; if it has no value there, the query is an error, whatever would become of the row.
func TestErrors(t *testing.T) {
	fails(t,
		"SELECT 1 / 0", "SELECT 6 / (a - 2) FROM n", "SELECT a FROM n WHERE 6 / (a - 2) > 0", "SELECT 1 FROM n WHERE 1 / 0 = 1",
		"SELECT x.a FROM n AS x JOIN n AS y ON 1 / (x.a - y.a) = 1", "SELECT x.a FROM n AS x LEFT JOIN n AS y ON 1 / (x.a - y.a) = 1", "SELECT x.a FROM n AS x, n AS y WHERE 1 / (x.a - y.a) = 1",
		"SELECT count(1 / (a - 2)) FROM n", "SELECT sum(1 / (a - 2)) FROM n", "SELECT min(1 / (a - 2)) FROM n", "SELECT max(1 / (a - 2)) FROM n",
		"SELECT count(*) FROM n GROUP BY a HAVING 1 / (a - 2) = 1", "SELECT 1 / (count(*) - 3) FROM n", "SELECT 1 FROM n HAVING 1 / (count(*) - 3) = 1",
		"SELECT DISTINCT 1 / 0 FROM n", "SELECT 1 UNION SELECT 1 / 0", "SELECT 1 / 0 UNION ALL SELECT 1", "SELECT 1 EXCEPT SELECT 1 / 0", "SELECT 1 / 0 EXCEPT ALL SELECT 1",
		"SELECT 1 INTERSECT SELECT 1 / 0", "SELECT 1 / 0 INTERSECT ALL SELECT 1", "SELECT a FROM e INTERSECT SELECT 1 / 0", "SELECT a FROM e EXCEPT ALL SELECT 1 / 0",
		"SELECT 1 / 0 LIMIT 0", "SELECT 1 / (a - 3) AS c FROM n ORDER BY c LIMIT 1", "SELECT 1 FROM n WHERE EXISTS (SELECT 1 / 0)", "SELECT 9223372036854775807 + a FROM n", "SELECT a * 922337203685477.5807 FROM t",
		"SELECT 1 FROM (SELECT 1 / 0 AS a) AS x WHERE FALSE", "SELECT c.b FROM (SELECT a AS b, 1 / 0 AS d FROM n) AS c")
	makes(t, "SELECT 6 / (a - 2) FROM n WHERE a <> 2", "1 (-6)", "1 (6)")
	makes(t, "SELECT a FROM n WHERE a <> 2 AND 6 / (a - 2) > 0", "1 (3)")
	makes(t, "SELECT x.a FROM n AS x JOIN n AS y ON x.a < y.a AND 1 / (x.a - y.a) = -1", "1 (1)", "1 (2)")
	makes(t, "SELECT sum(1 / (a - 2)) FROM n WHERE a > 2", "1 (1)")
	makes(t, "SELECT 1 / a, 1 / 0 FROM e")
	makes(t, "SELECT a FROM e WHERE 1 / 0 = 1")
	makes(t, "SELECT count(1 / 0) FROM e", "1 (0)")
	makes(t, "SELECT a FROM e GROUP BY a HAVING 1 / 0 = 1")
	makes(t, "SELECT x.a FROM n AS x LEFT JOIN e AS y ON 1 / 0 = 1", "1 (1)", "1 (2)", "1 (3)")
	makes(t, "SELECT b / 0 FROM t WHERE b IS NULL", "1 (NULL)")
}

// P10.1: both sides of a join are meant once, rows or not; the right one of a lateral join within each row of the left one alone.
func TestErrorsInJoins(t *testing.T) {
	fails(t,
		"SELECT 1 FROM e, (SELECT 1 / 0 AS c) AS x", "SELECT 1 FROM e JOIN (SELECT 1 / 0 AS c) AS x ON TRUE", "SELECT 1 FROM e LEFT JOIN (SELECT 1 / 0 AS c) AS x ON TRUE",
		"SELECT 1 FROM (SELECT 1 / 0 AS c) AS x, e", "SELECT 1 FROM (SELECT 1 / 0 AS c) AS x LEFT JOIN e ON TRUE", "SELECT 1 FROM (SELECT 1 / 0 AS c) AS x, LATERAL (SELECT 1 AS d) AS y",
		"SELECT 1 FROM n, LATERAL (SELECT 1 / (a - 2) AS c) AS x WHERE a = 1", "SELECT 1 FROM n LEFT JOIN LATERAL (SELECT 1 / (a - 2) AS c) AS x ON FALSE",
		"SELECT 1 FROM e, (SELECT (SELECT a FROM n) AS c) AS x", "SELECT 1 FROM n, LATERAL (SELECT 1 AS c FROM e, (SELECT 1 / 0 AS d) AS y) AS x")
	makes(t, "SELECT 1 FROM e, LATERAL (SELECT 1 / 0 AS c) AS x")
	makes(t, "SELECT 1 FROM e JOIN LATERAL (SELECT 1 / 0 AS c) AS x ON TRUE")
	makes(t, "SELECT 1 FROM e LEFT JOIN LATERAL (SELECT 1 / 0 AS c) AS x ON TRUE")
	makes(t, "SELECT x.c FROM (SELECT a FROM n WHERE a <> 2) AS m, LATERAL (SELECT 1 / (a - 2) AS c) AS x", "1 (-1)", "1 (1)")
	makes(t, "SELECT 1 FROM e, LATERAL (SELECT y.d FROM (SELECT 1 / 0 AS d) AS y) AS x")
}

// P10.1: what stands in a subquery is evaluated for rows that are there, and for no others, even if it hangs on none of them.
func TestErrorsInSubqueries(t *testing.T) {
	great := []api.Filled{table("n", times(1, integer(1)), times(2, integer(1<<62))), table("e"), table("t", times(1, integer(1), integer(2)))}
	for _, s := range []string{
		"(SELECT sum(a) FROM n)", "(SELECT sum(a) FROM n GROUP BY a LIMIT 1)", "EXISTS (SELECT sum(a) FROM n GROUP BY a)", "1 IN (SELECT sum(a) FROM n GROUP BY a)", "(SELECT a FROM n)", "(SELECT 1 / (a - 1) FROM n LIMIT 1)", "EXISTS (SELECT 1 FROM n WHERE 1 / (a - 1) = 1)",
		"EXISTS (SELECT 1 FROM n LEFT JOIN n AS m ON 1 / (n.a - m.a) = 1)", "EXISTS (SELECT max(1 / (n.a - 1)) FROM n)", "EXISTS (SELECT 1 FROM n UNION SELECT sum(a) FROM n)", "EXISTS (SELECT sum(a) FROM n EXCEPT SELECT 1 FROM n)", "EXISTS (SELECT a FROM n INTERSECT ALL SELECT sum(a) FROM n)",
		"EXISTS (SELECT DISTINCT sum(a) FROM n ORDER BY c1 LIMIT 0)", "EXISTS (SELECT 1 FROM n, LATERAL (SELECT 1 / (n.a - 1) AS c) AS x)", "EXISTS (SELECT 1 FROM n, LATERAL (SELECT sum(m.a) AS c FROM n AS m) AS x)", "EXISTS (SELECT 1 FROM n, (SELECT sum(m.a) AS c FROM n AS m) AS x)", "2 IN (SELECT (SELECT m.a FROM n AS m) FROM n)", "(SELECT sum(a) FROM n) IN (SELECT a FROM n)",
	} {
		failsIn(t, great, "SELECT "+s+" FROM t")
		makesIn(t, great, "SELECT "+s+" FROM e")
		failsIn(t, great, "SELECT 1 FROM t, LATERAL (SELECT "+s+" AS c) AS x")
		makesIn(t, great, "SELECT 1 FROM e, LATERAL (SELECT "+s+" AS c) AS x")
		failsIn(t, great, "SELECT 1 FROM e, (SELECT "+s+" AS c) AS x")
		makesIn(t, great, "SELECT 1 FROM e AS x WHERE EXISTS (SELECT "+s+" FROM t WHERE t.a = x.a)")
		failsIn(t, great, "SELECT 1 FROM t AS x WHERE EXISTS (SELECT "+s+" FROM t WHERE t.a = x.a)")
		makesIn(t, great, "SELECT 1 FROM t AS x WHERE EXISTS (SELECT "+s+" FROM t WHERE t.a > x.a)")
	}
}
