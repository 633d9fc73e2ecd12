package mean_test

import (
	"math"
	"testing"

	"freshet/api"
)

// P8.1: all rows count, each as often as it is there; of an argument the values that are not NULL.
func TestAggregates(t *testing.T) {
	means(t, "SELECT count(*), count(a), count(b), sum(a), sum(b), min(a), min(b), max(a), max(b) FROM t", "1 (3, 3, 2, 4, 4, 1, 2, 2, 2)")
	means(t, "SELECT count(NULL), count(1), sum(1), count(b IS NULL) FROM t", "1 (0, 3, 3, 3)")
	means(t, "SELECT sum(a * 10 + coalesce(b, 5)), max(-a), min(a + b) FROM t", "1 (49, -1, 3)")
	means(t, "SELECT count(b), sum(b), min(b), max(b) FROM t WHERE b IS NULL", "1 (0, NULL, NULL, NULL)")
	means(t, "SELECT a, count(b), sum(b), min(b), max(b) FROM t GROUP BY a", "1 (1, 2, 4, 2, 2)", "1 (2, 0, NULL, NULL, NULL)")
	means(t, "SELECT count(*), count(p), count(i), count(d), count(s), count(y) FROM v", "1 (5, 4, 4, 4, 4, 4)")
	means(t, "SELECT sum(i), sum(d), sum(d + i) FROM v", "1 (-14, 0.0000, -14.0000)")
	means(t, "SELECT min(p), min(i), min(d), min(s), min(y) FROM v", "1 (FALSE, -7, -0.5000, 'a', x'')")
	means(t, "SELECT max(p), max(i), max(d), max(s), max(y) FROM v", "1 (TRUE, 7, 1.5000, 'aß', x'00')")
	means(t, "SELECT sum(c) FROM (SELECT DISTINCT 5 AS c FROM t) AS x", "1 (5)")
	means(t, "SELECT max(c), count(*) FROM (SELECT b, count(*) AS c FROM t GROUP BY b) AS x", "1 (2, 2)")
	means(t, "SELECT sum(x.a + y.a) FROM t AS x, t AS y", "1 (24)")
	means(t, "SELECT count(*) - count(b), count(*) * 2 FROM t", "1 (1, 6)")
}

// P8.1: min and max go by datum.Compare, of which texts are in the order of their bytes.
func TestLeastAndGreatest(t *testing.T) {
	var rows []api.Count
	for _, s := range []string{"b", "", "Z", "ab", "\u00df", "a", "\U0001f600"} {
		rows = append(rows, times(1, null, null, null, text(s), octets(s+"\xff")))
	}
	meansIn(t, []api.Filled{table("v", rows...)}, "SELECT min(s), max(s), min(y), max(y) FROM v", "1 ('', '\U0001f600', x'5aff', x'ff')")
	meansIn(t, []api.Filled{table("v", rows[2:]...)}, "SELECT min(s), max(s), min(y), max(y) FROM v", "1 ('Z', '\U0001f600', x'5aff', x'f09f9880ff')")
	numbers := table("v", times(1, yes, integer(math.MinInt64), decimal(math.MaxInt64), null, null), times(9, yes, integer(math.MaxInt64), decimal(-1), null, null), times(1, null, integer(0), null, null, null))
	meansIn(t, []api.Filled{numbers}, "SELECT min(i), max(i), min(d), max(d), min(p), max(p) FROM v", "1 (-9223372036854775808, 9223372036854775807, -0.0001, 922337203685477.5807, TRUE, TRUE)")
}

// P8.1: a sum is exact: what only comes up on the way needs no room, what comes out does.
func TestExactSums(t *testing.T) {
	const most, least = math.MaxInt64, math.MinInt64
	for _, x := range []struct {
		want string // none: an error
		rows []api.Count
	}{
		{"9223372036854775807", []api.Count{times(1, integer(most))}},
		{"-9223372036854775808", []api.Count{times(1, integer(least))}},
		{"", []api.Count{times(1, integer(most)), times(1, integer(1))}},
		{"", []api.Count{times(1, integer(least)), times(1, integer(-1))}},
		{"", []api.Count{times(2, integer(most))}},
		{"", []api.Count{times(2, integer(least))}},
		{"", []api.Count{times(2, integer(1<<62))}},
		{"-9223372036854775808", []api.Count{times(2, integer(-1<<62))}},
		{"-1", []api.Count{times(1, integer(most)), times(1, integer(least))}},
		{"0", []api.Count{times(1, integer(most)), times(1, integer(1)), times(1, integer(least))}},
		{"9223372036854775807", []api.Count{times(2, integer(most)), times(1, integer(-most))}},
		{"-5", []api.Count{times(5, integer(most)), times(5, integer(least))}},
		{"0", []api.Count{times(1<<60, integer(most)), times(1<<60, integer(-most))}},
		{"-1152921504606846976", []api.Count{times(1<<60, integer(most)), times(1<<60, integer(least))}},
		{"", []api.Count{times(1<<60, integer(most))}},
		{"9223372036854775807", []api.Count{times(1<<60, integer(most)), times(1<<60-1, integer(-most))}},
		{"-9223372036854775808", []api.Count{times(1<<59, integer(least)), times(1<<59-1, integer(most)), times(1<<59-1, integer(1))}},
		{"2305843009213693952", []api.Count{times(1<<61, integer(1))}},
		{"9223372036854775804", []api.Count{times(1<<61-1, integer(4))}},
		{"", []api.Count{times(1<<61, integer(4))}},
		{"-9223372036854775808", []api.Count{times(1<<61, integer(-4))}},
		{"", []api.Count{times(1<<60, integer(1<<40))}},
		{"", []api.Count{times(1<<60, integer(-1<<40))}},
		{"", []api.Count{times(1<<60, integer(16))}},
		{"-1", []api.Count{times(1<<59, integer(32)), times(1<<59, integer(-32)), times(1, integer(-1))}},
		{"0", []api.Count{times(3, integer(0))}},
	} {
		db := []api.Filled{table("n", x.rows...)}
		if x.want == "" {
			failsIn(t, db, "SELECT sum(a) FROM n")
			continue
		}
		meansIn(t, db, "SELECT sum(a) FROM n", "1 ("+x.want+")")
	}
	dec := func(n int64) api.Count { return times(1, null, null, decimal(n), null, null) }
	meansIn(t, []api.Filled{table("v", dec(most), dec(most), dec(least))}, "SELECT sum(d), count(d) FROM v", "1 (922337203685477.5806, 3)")
	failsIn(t, []api.Filled{table("v", dec(most), dec(1))}, "SELECT sum(d) FROM v")
	failsIn(t, []api.Filled{table("n", times(1, integer(most)), times(1, integer(1)))}, "SELECT min(a) FROM n HAVING sum(a) IS NULL")
}

// P8.1: counts go as far as rows can be there.
func TestGreatCounts(t *testing.T) {
	const great = 1 << 29
	db := []api.Filled{table("n", times(great, integer(1)), times(great, integer(2)))}
	meansIn(t, db, "SELECT count(*), count(a) FROM n", "1 (1073741824, 1073741824)")
	meansIn(t, db, "SELECT x.a FROM n AS x, n AS y", "576460752303423488 (1)", "576460752303423488 (2)")
	meansIn(t, db, "SELECT count(*), sum(x.a) FROM n AS x, n AS y", "1 (1152921504606846976, 1729382256910270464)")
	meansIn(t, db, "SELECT a FROM n UNION ALL SELECT 1 FROM n", "1610612736 (1)", "536870912 (2)")
	meansIn(t, db, "SELECT 1 FROM n EXCEPT ALL SELECT 1 FROM n WHERE a = 1", "536870912 (1)")
	meansIn(t, db, "SELECT 1 FROM n INTERSECT ALL SELECT a FROM n", "536870912 (1)")
	meansIn(t, db, "SELECT a FROM n LIMIT 1000000", "1000000 (1)")
	meansIn(t, db, "SELECT DISTINCT a FROM n", "1 (1)", "1 (2)")
	meansIn(t, db, "SELECT x.a, y.a FROM n AS x LEFT JOIN n AS y ON x.a > y.a", "536870912 (1, NULL)", "288230376151711744 (2, 1)")
	meansIn(t, db, "SELECT EXISTS (SELECT 1 FROM n), 2 IN (SELECT a FROM n)", "1 (TRUE, TRUE)")
	failsIn(t, db, "SELECT (SELECT a FROM n WHERE a = 1)")
}
