package lower_test

import (
	"testing"

	"freshet/api"
)

// P10.1: the chapter's examples.
func TestExamples(t *testing.T) {
	makes(t, "SELECT a FROM t WHERE b = 2", "2 (1)")
	makes(t, "SELECT b FROM t WHERE NOT b = 2")
	makes(t, "SELECT count(*), count(b), sum(b) FROM t", "1 (3, 2, 4)")
	makes(t, "SELECT sum(b) FROM t WHERE FALSE", "1 (NULL)")
	makes(t, "SELECT x.a FROM t AS x WHERE EXISTS (SELECT 1 FROM t AS y WHERE y.b = x.a)", "1 (2)")
	makes(t, "SELECT a IN (SELECT b FROM t) FROM t", "2 (NULL)", "1 (TRUE)")
	fails(t, "SELECT (SELECT a FROM t)", "SELECT 1 / 0")
	makes(t, "SELECT 1 / 0 WHERE FALSE")
	makes(t, "SELECT a FROM t ORDER BY a LIMIT 1", "1 (1)")
}

// P10.1: a table's rows are those that are there more than 0 times, of the first table that has the name.
func TestGet(t *testing.T) {
	one, two, three := integer(1), integer(2), integer(3)
	db := []api.Filled{
		table("n", times(9, integer(9))),
		table("t",
			times(2, two, one), times(-1, one, one), times(1, one, two), times(0, three, three), times(-1, two, one),
			times(2, one, null), times(-2, one, null), times(5, two, two), times(-6, two, two), times(3, one, two)),
		table("t", times(7, three, three)),
	}
	makesIn(t, db, "SELECT * FROM t", "4 (1, 2)", "1 (2, 1)")
	makesIn(t, db, "SELECT count(*), sum(b) FROM t", "1 (5, 9)")
	makesIn(t, db, "SELECT a FROM n", "9 (9)")
	makes(t, "SELECT * FROM e")
	makes(t, "SELECT * FROM v", "1 (NULL, NULL, NULL, NULL, NULL)", "3 (FALSE, -7, -0.5000, 'aß', x'')", "1 (TRUE, 7, 1.5000, 'a', x'00')")
	makesIn(t, []api.Filled{table("n", times(2, null), times(1, one))}, "SELECT a, a IS NULL FROM n WHERE coalesce(a, 5) > 1", "2 (NULL, TRUE)")
}

// P10.1: what a deletion takes, and what is subscribed to, are queries, too.
func TestStatements(t *testing.T) {
	makes(t, "DELETE FROM t WHERE b IS NULL", "1 (2, NULL)")
	makes(t, "DELETE FROM t", "2 (1, 2)", "1 (2, NULL)")
	makes(t, "SUBSCRIBE n", "1 (1)", "1 (2)", "1 (3)")
	makes(t, "CREATE VIEW w AS SELECT a + 1 AS a FROM t", "2 (2)", "1 (3)")
}

// P10.1: one row without values.
func TestOne(t *testing.T) {
	makes(t, "SELECT 1", "1 (1)")
	makes(t, "SELECT 1 WHERE NULL")
	makes(t, "SELECT count(*)", "1 (1)")
}

// P10.1: a filter has the rows of which its expression is TRUE.
func TestFilter(t *testing.T) {
	makes(t, "SELECT a FROM t WHERE b > 1", "2 (1)")
	makes(t, "SELECT a FROM t WHERE NOT (b > 1)")
	makes(t, "SELECT a FROM t WHERE NULL")
	makes(t, "SELECT a FROM t WHERE (b > 1) IS NULL", "1 (2)")
	makes(t, "SELECT i FROM v WHERE p", "1 (7)")
	makes(t, "SELECT i FROM v WHERE NOT p", "3 (-7)")
}

// P10.1: a map has the values of its expressions; rows that become the same are one, as often as all of them.
func TestMap(t *testing.T) {
	makes(t, "SELECT b, a, b FROM t", "1 (NULL, 2, NULL)", "2 (2, 1, 2)")
	makes(t, "SELECT 5 FROM t", "3 (5)")
	makes(t, "SELECT -a AS a FROM n", "1 (-3)", "1 (-2)", "1 (-1)")
	makes(t, "SELECT a / 2, a + 0.5 FROM n", "1 (0, 1.5000)", "1 (1, 2.5000)", "1 (1, 3.5000)")
	makes(t, "SELECT a / 2 FROM n", "1 (0)", "2 (1)")
}

// P10.1: a join has the rows of both, as often as one times the other, where its expression is TRUE.
func TestJoin(t *testing.T) {
	makes(t, "SELECT x.a, y.a FROM t AS x, t AS y", "4 (1, 1)", "2 (1, 2)", "2 (2, 1)", "1 (2, 2)")
	makes(t, "SELECT t.a, n.a FROM t JOIN n ON t.a < n.a", "2 (1, 2)", "2 (1, 3)", "1 (2, 3)")
	makes(t, "SELECT t.a, n.a FROM t JOIN n ON t.b = n.a", "2 (1, 2)")
	makes(t, "SELECT * FROM t JOIN n ON NULL")
	makes(t, "SELECT x.a, y.a, z.a FROM n AS x, n AS y JOIN n AS z ON y.a < z.a WHERE x.a > z.a", "1 (3, 1, 2)")
	makes(t, "SELECT * FROM t, e")
	makes(t, "SELECT * FROM e, t")
}

// P10.1: a LEFT JOIN has besides each row of the left one that finds none, with NULLs.
func TestLeftJoin(t *testing.T) {
	makes(t, "SELECT n.a, t.a, t.b FROM n LEFT JOIN t ON n.a = t.a", "2 (1, 1, 2)", "1 (2, 2, NULL)", "1 (3, NULL, NULL)")
	makes(t, "SELECT t.a, n.a FROM t LEFT JOIN n ON t.b < n.a", "2 (1, 3)", "1 (2, NULL)")
	makes(t, "SELECT t.a, n.a FROM t LEFT JOIN n ON FALSE", "2 (1, NULL)", "1 (2, NULL)")
	makes(t, "SELECT t.a, n.a FROM t LEFT JOIN n ON NULL", "2 (1, NULL)", "1 (2, NULL)")
	makes(t, "SELECT * FROM t LEFT JOIN e ON TRUE", "2 (1, 2, NULL, NULL)", "1 (2, NULL, NULL, NULL)")
	makes(t, "SELECT * FROM e LEFT JOIN t ON TRUE")
	makes(t, "SELECT * FROM n LEFT JOIN v ON v.i = n.a + 6", "1 (1, TRUE, 7, 1.5000, 'a', x'00')", "1 (2, NULL, NULL, NULL, NULL, NULL)", "1 (3, NULL, NULL, NULL, NULL, NULL)")
	makes(t, "SELECT n.a, x.c FROM n LEFT JOIN (SELECT count(*) AS c FROM e) AS x ON n.a = 2", "1 (1, NULL)", "1 (2, 0)", "1 (3, NULL)")
	makes(t, "SELECT x.a, y.a, z.a FROM n AS x LEFT JOIN n AS y ON x.a + 1 = y.a LEFT JOIN n AS z ON y.a + 1 = z.a", "1 (1, 2, 3)", "1 (2, 3, NULL)", "1 (3, NULL, NULL)")
}

// P10.1: the right side of a lateral join is meant within each row of the left one.
func TestLateral(t *testing.T) {
	makes(t, "SELECT n.a, x.c FROM n, LATERAL (SELECT count(*) AS c FROM t WHERE t.a = n.a) AS x", "1 (1, 2)", "1 (2, 1)", "1 (3, 0)")
	makes(t, "SELECT n.a, x.b FROM n LEFT JOIN LATERAL (SELECT t.b FROM t WHERE t.a = n.a) AS x ON TRUE", "2 (1, 2)", "1 (2, NULL)", "1 (3, NULL)")
	makes(t, "SELECT n.a, x.b FROM n LEFT JOIN LATERAL (SELECT t.b FROM t WHERE t.a = n.a) AS x ON x.b > n.a", "2 (1, 2)", "1 (2, NULL)", "1 (3, NULL)")
	makes(t, "SELECT n.a, x.b FROM n JOIN LATERAL (SELECT t.b FROM t WHERE t.a = n.a) AS x ON x.b > n.a", "2 (1, 2)")
	makes(t, "SELECT t.a, x.m FROM t, LATERAL (SELECT n.a AS m FROM n WHERE n.a <= t.a ORDER BY m DESC LIMIT 1) AS x", "2 (1, 1)", "1 (2, 2)")
	makes(t, "SELECT x.c, y.c FROM n, LATERAL (SELECT n.a + 1 AS c) AS x, LATERAL (SELECT n.a + x.c AS c) AS y", "1 (2, 3)", "1 (3, 5)", "1 (4, 7)")
	makes(t, "SELECT n.a, x.c FROM n, LATERAL (SELECT y.c FROM t, LATERAL (SELECT n.a + t.a AS c) AS y WHERE n.a < y.c - 1) AS x WHERE n.a = 1", "1 (1, 3)")
	makes(t, "SELECT * FROM e, LATERAL (SELECT 1 / 0 AS c) AS x")
}

// P10.1: groups are of the same values, NULL among them, and have a row each; with no GROUP BY there is just one, rows or not.
func TestGroup(t *testing.T) {
	makes(t, "SELECT b, count(*) FROM t GROUP BY b", "1 (NULL, 1)", "1 (2, 2)")
	makes(t, "SELECT x.b, count(*) FROM t AS x, t AS y GROUP BY x.b", "1 (NULL, 3)", "1 (2, 6)")
	makes(t, "SELECT count(*) FROM t GROUP BY b", "1 (1)", "1 (2)")
	makes(t, "SELECT 5 FROM n GROUP BY a", "3 (5)")
	makes(t, "SELECT y.a, x.b, sum(y.a) FROM t AS x, n AS y WHERE y.a < 3 GROUP BY x.b, y.a", "1 (1, NULL, 1)", "1 (1, 2, 2)", "1 (2, NULL, 2)", "1 (2, 2, 4)")
	makes(t, "SELECT b FROM t GROUP BY b, b", "1 (NULL)", "1 (2)")
	makes(t, "SELECT p, i, d, s, y FROM v GROUP BY y, s, d, i, p", "1 (NULL, NULL, NULL, NULL, NULL)", "1 (FALSE, -7, -0.5000, 'aß', x'')", "1 (TRUE, 7, 1.5000, 'a', x'00')")
	makes(t, "SELECT a FROM e GROUP BY a")
	makes(t, "SELECT count(*) FROM e GROUP BY a")
	makes(t, "SELECT count(*), count(a), sum(a), min(a), max(a) FROM e", "1 (0, 0, NULL, NULL, NULL)")
	makes(t, "SELECT 1 FROM e HAVING TRUE", "1 (1)")
	makes(t, "SELECT 1 FROM t HAVING TRUE", "1 (1)")
	makes(t, "SELECT 1 FROM t HAVING FALSE")
	makes(t, "SELECT a FROM t GROUP BY a HAVING count(*) > 1", "1 (1)")
	makes(t, "SELECT a FROM t GROUP BY a HAVING sum(b) IS NULL", "1 (2)")
	makes(t, "SELECT a, count(*) + (SELECT n.a FROM n WHERE n.a = t.a) FROM t GROUP BY a", "1 (1, 3)", "1 (2, 3)")
	makes(t, "SELECT a FROM t GROUP BY a HAVING EXISTS (SELECT 1 FROM n WHERE n.a = t.a + 1 AND t.a < n.a)", "1 (1)", "1 (2)")
}

// P10.1: each row once.
func TestDistinct(t *testing.T) {
	makes(t, "SELECT DISTINCT a FROM t", "1 (1)", "1 (2)")
	makes(t, "SELECT DISTINCT 1 FROM t", "1 (1)")
	makes(t, "SELECT DISTINCT b, NULL IS NULL FROM t", "1 (NULL, TRUE)", "1 (2, TRUE)")
	makes(t, "SELECT DISTINCT a FROM e")
	makes(t, "SELECT count(*) FROM (SELECT DISTINCT a / 2 AS a FROM n) AS x", "1 (2)")
}

// P10.1: unions, differences and what both have, with ALL and without.
func TestSets(t *testing.T) {
	makes(t, "SELECT a FROM t UNION ALL SELECT b FROM t", "1 (NULL)", "2 (1)", "3 (2)")
	makes(t, "SELECT a FROM t UNION SELECT b FROM t", "1 (NULL)", "1 (1)", "1 (2)")
	makes(t, "SELECT a FROM t UNION ALL SELECT a FROM e", "2 (1)", "1 (2)")
	makes(t, "SELECT a FROM t EXCEPT ALL SELECT a FROM n", "1 (1)")
	makes(t, "SELECT a FROM n EXCEPT ALL SELECT a FROM t", "1 (3)")
	makes(t, "SELECT a FROM t EXCEPT SELECT a FROM n")
	makes(t, "SELECT a FROM n EXCEPT SELECT a FROM t", "1 (3)")
	makes(t, "SELECT b FROM t EXCEPT ALL SELECT b FROM t WHERE b IS NULL", "2 (2)")
	makes(t, "SELECT b FROM t EXCEPT SELECT a FROM n", "1 (NULL)")
	makes(t, "SELECT a FROM t EXCEPT ALL SELECT a FROM e", "2 (1)", "1 (2)")
	makes(t, "SELECT a FROM e EXCEPT ALL SELECT a FROM t")
	makes(t, "SELECT 1 FROM v EXCEPT ALL SELECT 1 FROM t", "2 (1)")
	makes(t, "SELECT a FROM t INTERSECT ALL SELECT a FROM n", "1 (1)", "1 (2)")
	makes(t, "SELECT 1 FROM t INTERSECT ALL SELECT 1 FROM v", "3 (1)")
	makes(t, "SELECT 1 FROM v INTERSECT ALL SELECT 1 FROM t", "3 (1)")
	makes(t, "SELECT 1 FROM t INTERSECT SELECT 1 FROM v", "1 (1)")
	makes(t, "SELECT b FROM t INTERSECT ALL SELECT b FROM t", "1 (NULL)", "2 (2)")
	makes(t, "SELECT a FROM t INTERSECT ALL SELECT a FROM e")
	makes(t, "SELECT a FROM e INTERSECT ALL SELECT a FROM t")
	makes(t, "SELECT a, b FROM t UNION ALL SELECT b, a FROM t", "1 (NULL, 2)", "2 (1, 2)", "1 (2, NULL)", "2 (2, 1)")
}

// P10.1: the first rows in the order by the columns that are named, and then by all; each as often as it is there.
func TestTop(t *testing.T) {
	makes(t, "SELECT a, b FROM t LIMIT 0")
	makes(t, "SELECT a, b FROM t LIMIT 1", "1 (1, 2)")
	makes(t, "SELECT a, b FROM t LIMIT 2", "2 (1, 2)")
	makes(t, "SELECT a, b FROM t LIMIT 3", "2 (1, 2)", "1 (2, NULL)")
	makes(t, "SELECT a, b FROM t LIMIT 1000000", "2 (1, 2)", "1 (2, NULL)")
	makes(t, "SELECT a, b FROM t ORDER BY a DESC LIMIT 2", "1 (1, 2)", "1 (2, NULL)")
	makes(t, "SELECT a, b FROM t ORDER BY b LIMIT 1", "1 (2, NULL)")
	makes(t, "SELECT a, b FROM t ORDER BY b DESC LIMIT 1", "1 (1, 2)")
	makes(t, "SELECT a FROM e ORDER BY a LIMIT 1")
	makes(t, "SELECT x.a, y.a AS b FROM n AS x, n AS y ORDER BY b DESC LIMIT 4", "1 (1, 2)", "1 (1, 3)", "1 (2, 3)", "1 (3, 3)")
	makes(t, "SELECT x.a, y.a AS b FROM n AS x, n AS y ORDER BY b DESC, a DESC LIMIT 4", "1 (1, 3)", "1 (2, 3)", "1 (3, 2)", "1 (3, 3)")
	makes(t, "SELECT x.a, y.a AS b FROM n AS x, n AS y ORDER BY a DESC, b LIMIT 4", "1 (2, 1)", "1 (3, 1)", "1 (3, 2)", "1 (3, 3)")
	makes(t, "SELECT x.a, y.a AS b FROM n AS x, n AS y ORDER BY b, a DESC, b DESC LIMIT 2", "1 (2, 1)", "1 (3, 1)")
	makes(t, "SELECT s, i FROM v ORDER BY s DESC LIMIT 2", "2 ('aß', -7)")
	makes(t, "SELECT s, i FROM v ORDER BY i DESC LIMIT 2", "1 ('a', 7)", "1 ('aß', -7)")
	makes(t, "SELECT p, d FROM v ORDER BY p DESC, d LIMIT 2", "1 (FALSE, -0.5000)", "1 (TRUE, 1.5000)")
	makes(t, "(SELECT a FROM n ORDER BY a DESC LIMIT 2) ORDER BY a LIMIT 1", "1 (2)")
	makes(t, "SELECT a FROM n UNION ALL SELECT a FROM t ORDER BY a LIMIT 4", "3 (1)", "1 (2)")
}
