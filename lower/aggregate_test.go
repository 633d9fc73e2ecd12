package lower_test

import (
	"math"
	"testing"

	"freshet/api"
)

// P10.1: all rows count, each as often as it is there; of an argument the values that are not NULL.
func TestAggregates(t *testing.T) {
	makes(t, "SELECT count(*), count(a), count(b), sum(a), sum(b), min(a), min(b), max(a), max(b) FROM t", "1 (3, 3, 2, 4, 4, 1, 2, 2, 2)")
	makes(t, "SELECT count(NULL), count(1), sum(1), count(b IS NULL) FROM t", "1 (0, 3, 3, 3)")
	makes(t, "SELECT sum(a * 10 + coalesce(b, 5)), max(-a), min(a + b) FROM t", "1 (49, -1, 3)")
	makes(t, "SELECT count(b), sum(b), min(b), max(b) FROM t WHERE b IS NULL", "1 (0, NULL, NULL, NULL)")
	makes(t, "SELECT a, count(b), sum(b), min(b), max(b) FROM t GROUP BY a", "1 (1, 2, 4, 2, 2)", "1 (2, 0, NULL, NULL, NULL)")
	makes(t, "SELECT count(*), count(p), count(i), count(d), count(s), count(y) FROM v", "1 (5, 4, 4, 4, 4, 4)")
	makes(t, "SELECT sum(i), sum(d), sum(d + i) FROM v", "1 (-14, 0.0000, -14.0000)")
	makes(t, "SELECT min(p), min(i), min(d), min(s), min(y) FROM v", "1 (FALSE, -7, -0.5000, 'a', x'')")
	makes(t, "SELECT max(p), max(i), max(d), max(s), max(y) FROM v", "1 (TRUE, 7, 1.5000, 'aß', x'00')")
	makes(t, "SELECT sum(c) FROM (SELECT DISTINCT 5 AS c FROM t) AS x", "1 (5)")
	makes(t, "SELECT max(c), count(*) FROM (SELECT b, count(*) AS c FROM t GROUP BY b) AS x", "1 (2, 2)")
	makes(t, "SELECT sum(x.a + y.a) FROM t AS x, t AS y", "1 (24)")
	makes(t, "SELECT count(*) - count(b), count(*) * 2 FROM t", "1 (1, 6)")
}

// P10.1: a sum is exact: what only comes up on the way needs no room, what comes out does.
func TestExactSums(t *testing.T) {
	const most, least = math.MaxInt64, math.MinInt64
	for _, x := range []struct {
		want string // none: an error
		rows []api.Count
	}{
		{"9223372036854775807", []api.Count{times(1, integer(most))}},
		{"-9223372036854775808", []api.Count{times(1, integer(least))}},
		{"", []api.Count{times(1, integer(most)), times(1, integer(1))}},
		{"", []api.Count{times(1, integer(least)), times(1, integer(-1))}},
		{"", []api.Count{times(2, integer(most))}},
		{"", []api.Count{times(2, integer(least))}},
		{"", []api.Count{times(2, integer(1<<62))}},
		{"-9223372036854775808", []api.Count{times(2, integer(-1<<62))}},
		{"-1", []api.Count{times(1, integer(most)), times(1, integer(least))}},
		{"0", []api.Count{times(1, integer(most)), times(1, integer(1)), times(1, integer(least))}},
		{"9223372036854775807", []api.Count{times(2, integer(most)), times(1, integer(-most))}},
		{"-5", []api.Count{times(5, integer(most)), times(5, integer(least))}},
		{"0", []api.Count{times(1<<60, integer(most)), times(1<<60, integer(-most))}},
		{"-1152921504606846976", []api.Count{times(1<<60, integer(most)), times(1<<60, integer(least))}},
		{"", []api.Count{times(1<<60, integer(most))}},
		{"9223372036854775807", []api.Count{times(1<<60, integer(most)), times(1<<60-1, integer(-most))}},
		{"-9223372036854775808", []api.Count{times(1<<59, integer(least)), times(1<<59-1, integer(most)), times(1<<59-1, integer(1))}},
		{"2305843009213693952", []api.Count{times(1<<61, integer(1))}},
		{"9223372036854775804", []api.Count{times(1<<61-1, integer(4))}},
		{"", []api.Count{times(1<<61, integer(4))}},
		{"-9223372036854775808", []api.Count{times(1<<61, integer(-4))}},
		{"", []api.Count{times(1<<60, integer(1<<40))}},
		{"", []api.Count{times(1<<60, integer(-1<<40))}},
		{"", []api.Count{times(1<<60, integer(16))}},
		{"-1", []api.Count{times(1<<59, integer(32)), times(1<<59, integer(-32)), times(1, integer(-1))}},
		{"0", []api.Count{times(3, integer(0))}},
	} {
		db := []api.Filled{table("n", x.rows...)}
		if x.want == "" {
			failsIn(t, db, "SELECT sum(a) FROM n")
			continue
		}
		makesIn(t, db, "SELECT sum(a) FROM n", "1 ("+x.want+")")
	}
	dec := func(n int64) api.Count { return times(1, null, null, decimal(n), null, null) }
	makesIn(t, []api.Filled{table("v", dec(most), dec(most), dec(least))}, "SELECT sum(d), count(d) FROM v", "1 (922337203685477.5806, 3)")
	failsIn(t, []api.Filled{table("v", dec(most), dec(1))}, "SELECT sum(d) FROM v")
	failsIn(t, []api.Filled{table("n", times(1, integer(most)), times(1, integer(1)))}, "SELECT min(a) FROM n HAVING sum(a) IS NULL")
}

// P10.1: counts go as far as rows can be there.
func TestGreatCounts(t *testing.T) {
	const great = 1 << 29
	db := []api.Filled{table("n", times(great, integer(1)), times(great, integer(2)))}
	makesIn(t, db, "SELECT count(*), count(a) FROM n", "1 (1073741824, 1073741824)")
	makesIn(t, db, "SELECT x.a FROM n AS x, n AS y", "576460752303423488 (1)", "576460752303423488 (2)")
	makesIn(t, db, "SELECT count(*), sum(x.a) FROM n AS x, n AS y", "1 (1152921504606846976, 1729382256910270464)")
	makesIn(t, db, "SELECT a FROM n UNION ALL SELECT 1 FROM n", "1610612736 (1)", "536870912 (2)")
	makesIn(t, db, "SELECT 1 FROM n EXCEPT ALL SELECT 1 FROM n WHERE a = 1", "536870912 (1)")
	makesIn(t, db, "SELECT 1 FROM n INTERSECT ALL SELECT a FROM n", "536870912 (1)")
	makesIn(t, db, "SELECT a FROM n LIMIT 1000000", "1000000 (1)")
	makesIn(t, db, "SELECT DISTINCT a FROM n", "1 (1)", "1 (2)")
	makesIn(t, db, "SELECT x.a, y.a FROM n AS x LEFT JOIN n AS y ON x.a > y.a", "536870912 (1, NULL)", "288230376151711744 (2, 1)")
	makesIn(t, db, "SELECT EXISTS (SELECT 1 FROM n), 2 IN (SELECT a FROM n)", "1 (TRUE, TRUE)")
	failsIn(t, db, "SELECT (SELECT a FROM n WHERE a = 1)")
	most := []api.Filled{table("n", times(1<<60, integer(1)), times(1<<60, integer(2))), table("t", times(1, integer(1), integer(2)))}
	makesIn(t, most, "SELECT EXISTS (SELECT 1 FROM n), 2 IN (SELECT a FROM n), 3 NOT IN (SELECT a FROM n), NULL IN (SELECT a FROM n), (SELECT count(*) FROM n)", "1 (TRUE, TRUE, TRUE, NULL, 2305843009213693952)")
	makesIn(t, most, "SELECT n.a FROM n WHERE n.a IN (SELECT 1 FROM t)", "1152921504606846976 (1)")
	makesIn(t, most, "SELECT n.a, t.b FROM n LEFT JOIN t ON n.a = t.a", "1152921504606846976 (1, 2)", "1152921504606846976 (2, NULL)")
	makesIn(t, most, "SELECT n.a, x.b FROM n, LATERAL (SELECT n.a + b AS b FROM t) AS x WHERE EXISTS (SELECT 1 FROM t WHERE t.a = n.a)", "1152921504606846976 (1, 3)")
	makesIn(t, most, "SELECT t.b, (SELECT sum(n.a) FROM n WHERE n.a = t.a) FROM t", "1 (2, 1152921504606846976)")
}
