package lower_test

import "testing"

// P10.1: EXISTS tells whether there is a row.
func TestExists(t *testing.T) {
	makes(t, "SELECT EXISTS (SELECT a FROM t), EXISTS (SELECT a FROM e), EXISTS (SELECT b FROM t WHERE b IS NULL)", "1 (TRUE, FALSE, TRUE)")
	makes(t, "SELECT NOT EXISTS (SELECT 1 WHERE NULL)", "1 (TRUE)")
	makes(t, "SELECT a FROM n WHERE EXISTS (SELECT 1 FROM t WHERE t.a = n.a)", "1 (1)", "1 (2)")
	makes(t, "SELECT a FROM n WHERE NOT EXISTS (SELECT 1 FROM t WHERE t.b = n.a)", "1 (1)", "1 (3)")
	makes(t, "SELECT a FROM n WHERE EXISTS (SELECT count(*) FROM e WHERE e.a = n.a)", "1 (1)", "1 (2)", "1 (3)")
	makes(t, "SELECT EXISTS (SELECT a FROM t LIMIT 0), EXISTS (SELECT a FROM t LIMIT 1)", "1 (FALSE, TRUE)")
}

// P10.1: a scalar subquery is NULL of no row, its value of one, an error of more, and of one that is there twice.
func TestScalar(t *testing.T) {
	makes(t, "SELECT (SELECT a FROM e)", "1 (NULL)")
	makes(t, "SELECT (SELECT a FROM t WHERE b IS NULL), (SELECT b FROM t WHERE a = 2)", "1 (2, NULL)")
	makes(t, "SELECT (SELECT count(*) FROM t)", "1 (3)")
	makes(t, "SELECT (SELECT DISTINCT a FROM t WHERE a = 1)", "1 (1)")
	makes(t, "SELECT (SELECT a FROM t LIMIT 1), (SELECT a FROM t ORDER BY a DESC LIMIT 1)", "1 (1, 2)")
	makes(t, "SELECT n.a, (SELECT DISTINCT t.b FROM t WHERE t.a = n.a) FROM n", "1 (1, 2)", "1 (2, NULL)", "1 (3, NULL)")
	makes(t, "SELECT n.a, (SELECT sum(t.b) FROM t WHERE t.a <= n.a) FROM n", "1 (1, 4)", "1 (2, 4)", "1 (3, 4)")
	fails(t,
		"SELECT (SELECT a FROM t)", "SELECT (SELECT a FROM n)", "SELECT (SELECT a FROM t WHERE a = 1)", "SELECT (SELECT a FROM t LIMIT 2)", "SELECT (SELECT 1 FROM t)",
		"SELECT n.a FROM n WHERE (SELECT t.a FROM t WHERE t.a = n.a) = 2",
		"SELECT (SELECT a FROM n WHERE a = 1 UNION ALL SELECT a FROM t WHERE b IS NULL)")
}

// P10.1: IN is FALSE of no row; TRUE, if one is the same; else NULL, if one may be; else FALSE.
func TestIn(t *testing.T) {
	makes(t, "SELECT a IN (SELECT b FROM t) FROM t", "2 (NULL)", "1 (TRUE)")
	makes(t, "SELECT a, a IN (SELECT a FROM t) FROM n", "1 (1, TRUE)", "1 (2, TRUE)", "1 (3, FALSE)")
	makes(t, "SELECT a, a NOT IN (SELECT a FROM t) FROM n", "1 (1, FALSE)", "1 (2, FALSE)", "1 (3, TRUE)")
	makes(t, "SELECT a, a NOT IN (SELECT b FROM t) FROM n", "1 (1, NULL)", "1 (2, FALSE)", "1 (3, NULL)")
	makes(t, "SELECT 1 IN (SELECT a FROM e), NULL IN (SELECT a FROM e), NULL NOT IN (SELECT a FROM e)", "1 (FALSE, FALSE, TRUE)")
	makes(t, "SELECT NULL IN (SELECT a FROM n), NULL IN (SELECT b FROM t), NULL NOT IN (SELECT a FROM n)", "1 (NULL, NULL, NULL)")
	makes(t, "SELECT b, b IN (SELECT b FROM t WHERE b IS NULL) FROM t", "1 (NULL, NULL)", "2 (2, NULL)")
	makes(t, "SELECT b IN (SELECT b FROM t WHERE b IS NOT NULL) FROM t", "1 (NULL)", "2 (TRUE)")
	makes(t, "SELECT 2 IN (SELECT 1 UNION SELECT 2), 3 IN (SELECT 1 UNION SELECT 2), 1 IN (SELECT 1 UNION SELECT 2)", "1 (TRUE, FALSE, TRUE)")
	makes(t, "SELECT 2.0 IN (SELECT a FROM n), 2 IN (SELECT 2.0), 2.5 IN (SELECT a FROM n)", "1 (TRUE, TRUE, FALSE)")
	makes(t, "SELECT s IN (SELECT 'a'), y IN (SELECT y FROM v WHERE y IS NOT NULL), p IN (SELECT FALSE) FROM v", "1 (NULL, NULL, NULL)", "3 (FALSE, TRUE, TRUE)", "1 (TRUE, TRUE, FALSE)")
	makes(t, "SELECT a FROM t WHERE a IN (SELECT a FROM n)", "2 (1)", "1 (2)")
	makes(t, "SELECT n.a FROM n WHERE n.a + 1 IN (SELECT t.b FROM t WHERE t.a = n.a)", "1 (1)")
}

// P10.1: the Kid of an IN sees the scopes in which the IN stands, not the rows that are found; nor do the subqueries in it.
func TestKidOfIn(t *testing.T) {
	makes(t, "SELECT x.a FROM n AS x WHERE x.a IN (SELECT y.a + 1 FROM n AS y WHERE y.a < 2)", "1 (2)")
	makes(t, "SELECT a, (SELECT count(*) FROM t WHERE t.a = n.a) IN (SELECT a FROM n) FROM n", "1 (1, TRUE)", "1 (2, TRUE)", "1 (3, FALSE)")
	makes(t, "SELECT x.a FROM n AS x WHERE EXISTS (SELECT 1 FROM n AS y WHERE x.a + y.a IN (SELECT z.a FROM n AS z WHERE z.a > x.a AND z.a > y.a + 1))", "1 (2)")
	makes(t, "SELECT x.a FROM n AS x WHERE (SELECT max(y.a) FROM n AS y WHERE y.a < x.a) IN (SELECT z.a FROM n AS z WHERE z.a = x.a - 1)", "1 (2)", "1 (3)")
	makes(t, "SELECT x.a, (x.a IN (SELECT y.a FROM n AS y WHERE y.a > x.a - 1)) IN (SELECT x.a > 1) FROM n AS x", "1 (1, FALSE)", "1 (2, TRUE)", "1 (3, TRUE)")
	makes(t, "SELECT a FROM n WHERE a IN (SELECT a FROM t WHERE a IN (SELECT 3 - n.a FROM e AS n UNION ALL SELECT 2))", "1 (2)")
}

// P10.1: scopes lie within one another, as far as one likes.
func TestScopes(t *testing.T) {
	makes(t, "SELECT x.a, (SELECT max(y.a) FROM n AS y WHERE y.a <= (SELECT min(z.a) FROM n AS z WHERE z.a >= x.a AND z.a >= y.a - 1)) FROM n AS x", "1 (1, 1)", "1 (2, 2)", "1 (3, 3)")
	makes(t, "SELECT x.a FROM n AS x WHERE EXISTS (SELECT 1 FROM n AS y WHERE EXISTS (SELECT 1 FROM n AS z WHERE z.a = x.a + y.a AND EXISTS (SELECT 1 WHERE x.a < y.a AND y.a < z.a)))", "1 (1)")
	makes(t, "SELECT x.a, (SELECT sum(c) FROM (SELECT y.a * x.a AS c FROM n AS y) AS s) FROM n AS x", "1 (1, 6)", "1 (2, 12)", "1 (3, 18)")
	makes(t, "SELECT x.a, (SELECT sum(z.c) FROM n AS y, LATERAL (SELECT 100 * x.a + 10 * y.a + w.a AS c FROM n AS w WHERE w.a = y.a) AS z) FROM n AS x", "1 (1, 366)", "1 (2, 666)", "1 (3, 966)")
	makes(t, "SELECT x.a, y.a FROM n AS x LEFT JOIN n AS y ON EXISTS (SELECT 1 FROM t WHERE t.a = x.a AND t.b = y.a)", "1 (1, 2)", "1 (2, NULL)", "1 (3, NULL)")
	makes(t, "SELECT x.a, (SELECT count(*) FROM n AS y GROUP BY y.a HAVING y.a = x.a AND count(*) < 2) FROM n AS x", "1 (1, 1)", "1 (2, 1)", "1 (3, 1)")
	makes(t, "SELECT x.a, (SELECT count(y.a + x.a) FROM n AS y HAVING sum(y.a - x.a) > -1) FROM n AS x", "1 (1, 3)", "1 (2, 3)", "1 (3, NULL)")
	makes(t, "SELECT x.a, EXISTS (SELECT y.a FROM n AS y UNION ALL SELECT x.a EXCEPT ALL SELECT z.a FROM n AS z WHERE z.a <> x.a) FROM n AS x WHERE x.a > 2", "1 (3, TRUE)")
	makes(t, "SELECT x.a, (SELECT x.a + 1 UNION SELECT y.a FROM n AS y WHERE y.a = x.a + 1 ORDER BY c1 LIMIT 1) FROM n AS x", "1 (1, 2)", "1 (2, 3)", "1 (3, 4)")
}

// P10.1: an expression's subqueries are evaluated first, all of them, also such as it does not come to.
func TestAllSubqueriesAreEvaluated(t *testing.T) {
	fails(t,
		"SELECT CASE WHEN TRUE THEN 1 ELSE (SELECT a FROM t) END", "SELECT CASE WHEN FALSE THEN (SELECT 1 / 0) ELSE 1 END", "SELECT CASE WHEN TRUE THEN 1 WHEN EXISTS (SELECT 1 / 0) THEN 2 END",
		"SELECT coalesce(1, (SELECT a FROM t))", "SELECT FALSE AND EXISTS (SELECT 1 / 0)", "SELECT TRUE OR 1 IN (SELECT 1 / 0)", "SELECT a FROM t WHERE FALSE AND (SELECT a FROM n) = 1",
		"SELECT TRUE OR 1 / 0 IN (SELECT 1)", "SELECT TRUE OR (SELECT a FROM t) IN (SELECT 1)",
		"SELECT n.a FROM n WHERE n.a = 9 AND (SELECT t.a FROM t WHERE t.a = n.a) = 1",
		"SELECT n.a FROM n LEFT JOIN t ON FALSE AND (SELECT 1 / 0) = 1")
	makes(t, "SELECT FALSE AND 1 / 0 = 1, TRUE OR 1 / 0 = 1, coalesce(1, 1 / 0), CASE WHEN TRUE THEN 1 ELSE 1 / 0 END", "1 (FALSE, TRUE, 1, 1)")
	makes(t, "SELECT 1 FROM e WHERE EXISTS (SELECT 1 / 0)")
	makes(t, "SELECT CASE WHEN TRUE THEN 1 ELSE (SELECT a FROM t LIMIT 1) END", "1 (1)")
}

// P10.1: of an IN that finds no row the Kid is not evaluated, nor what stands in it; of one that finds some it is, whatever they are.
func TestKidIsEvaluatedOnRows(t *testing.T) {
	makes(t, "SELECT 1 / 0 IN (SELECT a FROM e)", "1 (FALSE)")
	makes(t, "SELECT 1 / 0 NOT IN (SELECT a FROM e)", "1 (TRUE)")
	makes(t, "SELECT (SELECT a FROM t) IN (SELECT a FROM e)", "1 (FALSE)")
	makes(t, "SELECT (SELECT 1 / 0) IN (SELECT a FROM n WHERE a > 3)", "1 (FALSE)")
	makes(t, "SELECT EXISTS (SELECT 1 / 0) IN (SELECT TRUE WHERE FALSE)", "1 (FALSE)")
	makes(t, "SELECT (1 / 0 IN (SELECT a FROM e)) IN (SELECT FALSE)", "1 (TRUE)")
	fails(t,
		"SELECT 1 / 0 IN (SELECT a FROM n)", "SELECT 1 / 0 IN (SELECT b FROM t WHERE b IS NULL)", "SELECT (SELECT a FROM t) IN (SELECT a FROM n)", "SELECT (SELECT 1 / 0) IN (SELECT 1)",
		"SELECT (1 / 0 IN (SELECT 1)) IN (SELECT TRUE)", "SELECT (SELECT a FROM t) IN (SELECT 1 / 0 FROM e UNION ALL SELECT 1)")
}
