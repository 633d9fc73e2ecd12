package plan_test

import (
	"fmt"
	"strings"
	"testing"

	"freshet/api"
	"freshet/plan"
)

const w_ = "get w[p BOOL, q BYTES, r INT?, s DEC]"

// P6.5: what makes a query grouped, and what it is then.
func TestGroups(t *testing.T) {
	means(t, "SELECT b FROM t GROUP BY b", "map(0.0:TEXT?)[b TEXT?]{group(0.1:TEXT?; )[b TEXT?]{"+t_+"}}")
	means(t, "SELECT b, count(*) FROM t GROUP BY b", "map(0.0:TEXT?, 0.1:INT)[b TEXT?, c2 INT]{group(0.1:TEXT?; rows:INT())[b TEXT?, INT]{"+t_+"}}")
	means(t, "SELECT count(*) FROM t", "map(0.0:INT)[c1 INT]{all(; rows:INT())[INT]{"+t_+"}}")
	means(t, "SELECT count(*)", "map(0.0:INT)[c1 INT]{all(; rows:INT())[INT]{one}}")
	means(t, "SELECT 1 FROM t HAVING TRUE", "map(1)[c1 INT]{filter(TRUE){all(; )[]{"+t_+"}}}")
	means(t, "SELECT 1 HAVING NULL", "map(1)[c1 INT]{filter(NULL){all(; )[]{one}}}")
	means(t, "SELECT 1 FROM t GROUP BY a", "map(1)[c1 INT]{group(0.0:INT; )[a INT]{"+t_+"}}")
	means(t, "SELECT 1 FROM t WHERE a = 1 GROUP BY b, a HAVING max(a) = 1", "map(1)[c1 INT]{filter(=:BOOL?(0.2:INT?, 1)){group(0.1:TEXT?, 0.0:INT; max:INT(0.0:INT))[b TEXT?, a INT, INT?]{filter(=:BOOL(0.0:INT, 1)){"+t_+"}}}}")
	for s, is := range map[string]bool{
		"count(*) + 1": true, "NOT count(a) = 1": true, "coalesce(1, sum(t.a))": true, "CASE WHEN TRUE THEN 1 ELSE min(a) END": true, "max(b) IS NULL": true, "max(a) IN (SELECT 1)": true, "1, count(*)": true, "abs(-min(a))": true,
		"1": false, "(SELECT count(*) FROM u)": false, "EXISTS (SELECT count(*) FROM u)": false, "1 IN (SELECT count(*) FROM u)": false, "a IN (SELECT 1 FROM u GROUP BY u.a HAVING count(*) = 1)": false, "*": false,
	} {
		r := checked(t, "SELECT "+s+" FROM t").Rel
		if (r.Kids[0].Kind == api.RGroup) != is {
			t.Errorf("%q: %s", s, show(r))
		}
		mustBeRight(t, s, checked(t, "SELECT "+s+" FROM t"))
	}
	refuses(t, api.ErrAgg, "SELECT a FROM t HAVING TRUE", "SELECT a, count(*) FROM t", "SELECT count(*), b FROM t", "SELECT (SELECT count(*)), a, max(a) FROM t", "SELECT a FROM t HAVING count(*) = 1")
}

// P6.5: keys: columns of the FROM's scope alone.
func TestKeys(t *testing.T) {
	means(t, "SELECT t.a FROM t, u GROUP BY u.a, t.a, b", "map(0.1:INT)[a INT]{group(0.2:DEC?, 0.0:INT, 0.1:TEXT?; )[a DEC?, a INT, b TEXT?]{join(TRUE){"+t_+", "+u_+"}}}")
	means(t, "SELECT a + t.a FROM t GROUP BY t.a, b, a", "map(+:INT(0.0:INT, 0.0:INT))[c1 INT]{group(0.0:INT, 0.1:TEXT?, 0.0:INT; )[a INT, b TEXT?, a INT]{"+t_+"}}")
	means(t, "SELECT x.b FROM u LEFT JOIN t AS x ON TRUE GROUP BY x.a, b", "map(0.1:TEXT?)[b TEXT?]{group(0.1:INT?, 0.2:TEXT?; )[a INT?, b TEXT?]{left(TRUE){"+u_+", "+t_+"}}}")
	refuses(t, api.ErrColumn, "SELECT 1 FROM t GROUP BY c", "SELECT 1 GROUP BY a", "SELECT a AS c FROM t GROUP BY c", "SELECT 1 FROM t GROUP BY u.a", "SELECT 1 FROM t AS x GROUP BY t.a", "SELECT x FROM t GROUP BY a, y", "SELECT (SELECT 1 FROM u GROUP BY b) FROM t", "SELECT (SELECT 1 GROUP BY a) FROM t", "SELECT 1 FROM t, LATERAL (SELECT 1 FROM u GROUP BY t.a) AS x")
	refuses(t, api.ErrAmbiguous, "SELECT 1 FROM t, u GROUP BY a", "SELECT 1 FROM t, u GROUP BY b, a, c", "SELECT x FROM t, t AS y GROUP BY b")
}

// P6.5: in items and HAVING a column of the FROM's scope is a key, or ErrAgg; in their subqueries, too.
func TestKeysAlone(t *testing.T) {
	refuses(t, api.ErrAgg, "SELECT a FROM t GROUP BY b", "SELECT a + 1 FROM t GROUP BY b", "SELECT b FROM t GROUP BY b HAVING a = 1", "SELECT max(a) FROM t HAVING b = 'a'", "SELECT t.a FROM t, u GROUP BY u.a", "SELECT count(*), (SELECT 1 FROM u WHERE u.a = t.a) FROM t", "SELECT b FROM t GROUP BY b HAVING EXISTS (SELECT a)", "SELECT b IN (SELECT b FROM u WHERE t.a = 1) FROM t GROUP BY b", "SELECT (SELECT (SELECT (SELECT a))) FROM t GROUP BY b", "SELECT (SELECT max(a) FROM w) FROM t GROUP BY b", "SELECT (SELECT 1 FROM (SELECT t.a) AS x) FROM t GROUP BY b", "SELECT (SELECT 1 FROM w, LATERAL (SELECT t.a) AS x) FROM t GROUP BY b", "SELECT 1 FROM t GROUP BY b HAVING (SELECT a) = x", "SELECT (SELECT 1 FROM u JOIN w ON t.a = 1) FROM t GROUP BY b", "SELECT (SELECT 1 UNION SELECT a) FROM t GROUP BY b", "SELECT (SELECT (SELECT min(r) FROM w WHERE t.b = 'a') FROM u GROUP BY u.a) FROM t GROUP BY t.a")
	means(t, "SELECT (SELECT 1 FROM u WHERE u.a = t.a) FROM t GROUP BY b, a", "map(scalar:INT?{map(1)[c1 INT]{filter(=:BOOL?(0.0:DEC?, 1.1:INT)){"+u_+"}}})[c1 INT?]{group(0.1:TEXT?, 0.0:INT; )[b TEXT?, a INT]{"+t_+"}}")
	means(t, "SELECT (SELECT (SELECT b FROM w) FROM u) FROM t GROUP BY a, b", "map(scalar:TEXT?{map(scalar:TEXT?{map(2.1:TEXT?)[b TEXT?]{"+w_+"}})[c1 TEXT?]{"+u_+"}})[c1 TEXT?]{group(0.0:INT, 0.1:TEXT?; )[a INT, b TEXT?]{"+t_+"}}")
	// WHERE, JOINs and the arguments of aggregates see all columns; a subquery's own columns are its own.
	means(t, "SELECT max(b) FROM t WHERE a = 1 GROUP BY b HAVING sum(a) = 1", "map(0.1:TEXT?)[c1 TEXT?]{filter(=:BOOL?(0.2:INT?, 1)){group(0.1:TEXT?; max:TEXT(0.1:TEXT?), sum:INT(0.0:INT))[b TEXT?, TEXT?, INT?]{filter(=:BOOL(0.0:INT, 1)){"+t_+"}}}}")
	means(t, "SELECT (SELECT a FROM t AS x) FROM t GROUP BY b", "map(scalar:INT?{map(0.0:INT)[a INT]{"+t_+"}})[c1 INT?]{group(0.1:TEXT?; )[b TEXT?]{"+t_+"}}")
	means(t, "SELECT 1 FROM t WHERE EXISTS (SELECT a FROM u GROUP BY a) GROUP BY b", "map(1)[c1 INT]{group(0.1:TEXT?; )[b TEXT?]{filter(exists:BOOL{map(0.0:DEC?)[a DEC?]{group(0.0:DEC?; )[a DEC?]{"+u_+"}}}){"+t_+"}}}")
	// A grouped query sees all columns of the scopes outside of it, where those are not grouped.
	means(t, "SELECT (SELECT t.a FROM u GROUP BY u.a) FROM t", "map(scalar:INT?{map(1.0:INT)[a INT]{group(0.0:DEC?; )[a DEC?]{"+u_+"}}})[c1 INT?]{"+t_+"}")
	means(t, "SELECT (SELECT sum(t.a) FROM u) FROM t", "map(scalar:INT?{map(0.0:INT?)[c1 INT?]{all(; sum:INT(1.0:INT))[INT?]{"+u_+"}}})[c1 INT?]{"+t_+"}")
	// What is not found, or more than once, is told as that.
	refuses(t, api.ErrColumn, "SELECT c FROM t GROUP BY b", "SELECT count(*), x.a FROM t", "SELECT b FROM t GROUP BY b HAVING c = 1")
	refuses(t, api.ErrAmbiguous, "SELECT a FROM t, u GROUP BY b", "SELECT a FROM t, u GROUP BY t.a", "SELECT count(*), a FROM t, u")
}

// P6.5: the aggregates, in the order of items and HAVING, each by itself, behind the keys.
func TestAggregates(t *testing.T) {
	means(t, "SELECT sum(a), b, count(*) + count(b) FROM t GROUP BY b, a HAVING min(b) = max(b) AND count(*) = sum(a)",
		"map(0.2:INT?, 0.0:TEXT?, +:INT(0.3:INT, 0.4:INT))[c1 INT?, b TEXT?, c3 INT]{filter(and:BOOL?(=:BOOL?(0.5:TEXT?, 0.6:TEXT?), =:BOOL?(0.7:INT, 0.8:INT?)))"+
			"{group(0.1:TEXT?, 0.0:INT; sum:INT(0.0:INT), rows:INT(), count:INT(0.1:TEXT?), min:TEXT(0.1:TEXT?), max:TEXT(0.1:TEXT?), rows:INT(), sum:INT(0.0:INT))[b TEXT?, a INT, INT?, INT, INT, TEXT?, TEXT?, INT, INT?]{"+t_+"}}}")
	means(t, "SELECT sum(s), sum(r), min(p), max(q), count(NULL), min(s) FROM w",
		"map(0.0:DEC?, 0.1:INT?, 0.2:BOOL?, 0.3:BYTES?, 0.4:INT, 0.5:DEC?)[c1 DEC?, c2 INT?, c3 BOOL?, c4 BYTES?, c5 INT, c6 DEC?]{all(; sum:DEC(0.3:DEC), sum:INT(0.2:INT?), min:BOOL(0.0:BOOL), max:BYTES(0.1:BYTES), count:INT(NULL), min:DEC(0.3:DEC))[DEC?, INT?, BOOL?, BYTES?, INT, DEC?]{"+w_+"}}")
	means(t, "SELECT a, max(a + 1) + a FROM t GROUP BY a", "map(0.0:INT, +:INT?(0.1:INT?, 0.0:INT))[a INT, c2 INT?]{group(0.0:INT; max:INT(+:INT(0.0:INT, 1)))[a INT, INT?]{"+t_+"}}")
	means(t, "SELECT max(CASE WHEN p THEN r ELSE s END) FROM w", "map(0.0:DEC?)[c1 DEC?]{all(; max:DEC(case:DEC?(0.0:BOOL, dec:DEC?(0.2:INT?), 0.3:DEC)))[DEC?]{"+w_+"}}")
	// An aggregate is its innermost query's.
	means(t, "SELECT count(*) FROM t HAVING EXISTS (SELECT max(a) FROM u)", "map(0.0:INT)[c1 INT]{filter(exists:BOOL{map(0.0:DEC?)[c1 DEC?]{all(; max:DEC(0.0:DEC?))[DEC?]{"+u_+"}}}){all(; rows:INT())[INT]{"+t_+"}}}")
	refuses(t, api.ErrAgg, "SELECT count(*) FROM t HAVING EXISTS (SELECT 1 FROM u WHERE count(*) = 1)", "SELECT count(*), (SELECT 1 WHERE max(a) = 1) FROM t", "SELECT 1 FROM t GROUP BY a HAVING EXISTS (SELECT 1 FROM u JOIN w ON count(*) = 1)")
	// HAVING must be a condition.
	refuses(t, api.ErrType, "SELECT 1 HAVING 1", "SELECT a FROM t GROUP BY a HAVING a", "SELECT b FROM t GROUP BY b HAVING max(b)", "SELECT count(*) FROM t HAVING count(*)")
}

// P6.6: stars.
func TestStars(t *testing.T) {
	means(t, "SELECT * FROM t AS x", "map(0.0:INT, 0.1:TEXT?)[a INT, b TEXT?]{"+t_+"}")
	means(t, "SELECT *, a, *, 1 FROM t", "map(0.0:INT, 0.1:TEXT?, 0.0:INT, 0.0:INT, 0.1:TEXT?, 1)[a INT, b TEXT?, a INT, a INT, b TEXT?, c6 INT]{"+t_+"}")
	means(t, "SELECT * FROM t GROUP BY b, a, b", "map(0.1:INT, 0.0:TEXT?)[a INT, b TEXT?]{group(0.1:TEXT?, 0.0:INT, 0.1:TEXT?; )[b TEXT?, a INT, b TEXT?]{"+t_+"}}")
	means(t, "SELECT DISTINCT * FROM u", "distinct{map(0.0:DEC?)[a DEC?]{"+u_+"}}")
	refuses(t, api.ErrColumns, "SELECT *", "SELECT 1, *", "SELECT *, x", "SELECT * HAVING TRUE", "SELECT count(*), *", "SELECT * WHERE FALSE", "SELECT EXISTS (SELECT *) FROM t")
	refuses(t, api.ErrAgg, "SELECT * FROM t GROUP BY a", "SELECT * FROM t GROUP BY b", "SELECT *, count(*) FROM t", "SELECT * FROM t HAVING TRUE", "SELECT * FROM t, u GROUP BY t.a, u.a", "SELECT *, x FROM t GROUP BY a")
	refuses(t, api.ErrColumn, "SELECT x, * FROM t GROUP BY a")
}

// P6.6: names.
func TestNames(t *testing.T) {
	means(t, "SELECT t.a, a AS x, b, 1, -a, (SELECT a FROM u), 2 AS c1, a AS a FROM t", "map(0.0:INT, 0.0:INT, 0.1:TEXT?, 1, neg:INT(0.0:INT), scalar:DEC?{map(0.0:DEC?)[a DEC?]{"+u_+"}}, 2, 0.0:INT)[a INT, x INT, b TEXT?, c4 INT, c5 INT, c6 DEC?, c1 INT, a INT]{"+t_+"}")
	means(t, "SELECT *, 1 FROM t, u", "map(0.0:INT, 0.1:TEXT?, 0.2:DEC?, 1)[a INT, b TEXT?, a DEC?, c4 INT]{join(TRUE){"+t_+", "+u_+"}}")
	c := checked(t, "SELECT 1, 2, 3, 4, 5, 6, 7, 8, 9, 10, 11, 12, 13, 14, 15, 16")
	for i, col := range c.Cols {
		if col.Name != fmt.Sprint("c", i+1) {
			t.Errorf("column %d: %q", i, col.Name)
		}
	}
	for s, want := range map[string]string{"coalesce(a)": "c1", "a + 1": "c1", "a IS NULL": "c1", "count(*)": "c1", "NOT TRUE": "c1", "CASE WHEN TRUE THEN a END": "c1", "a IN (SELECT 1)": "c1", "EXISTS (SELECT 1)": "c1", "((a))": "a", "a AS b": "b", "1 AS t": "t"} {
		if strings.Contains(s, "count") {
			s += " FROM t"
		} else {
			s += " FROM t GROUP BY a"
		}
		if c := checked(t, "SELECT "+s); c.Cols[0].Name != want {
			t.Errorf("%q: %q", s, c.Cols[0].Name)
		}
	}
}

// P6.6: the type of an item must be known.
func TestItems(t *testing.T) {
	refuses(t, api.ErrType, "SELECT NULL", "SELECT 1, NULL AS x", "SELECT coalesce(NULL, NULL)", "SELECT CASE WHEN TRUE THEN NULL END", "SELECT EXISTS (SELECT NULL)", "SELECT NULL, x", "SELECT (SELECT NULL)", "SELECT 1 FROM (SELECT NULL AS a) AS x", "SELECT 1 IN (SELECT NULL)")
	refuses(t, api.ErrColumn, "SELECT x, NULL", "SELECT a, b, c FROM t", "SELECT NULL = x", "SELECT u.a FROM t")
	means(t, "SELECT NULL IS NULL, NOT NULL, NULL + 1, NULL = NULL, length(NULL)", "map(isnull:BOOL(NULL), not:BOOL?(NULL), +:INT?(NULL, 1), =:BOOL?(NULL, NULL), length:INT?(NULL))[c1 BOOL, c2 BOOL?, c3 INT?, c4 BOOL?, c5 INT?]{one}")
}

// P6.6: no more than MaxCols columns come out; of more the error is told when all items have been looked at, and ahead of HAVING's.
func TestManyItems(t *testing.T) {
	ones := strings.TrimSuffix(strings.Repeat("1, ", api.MaxCols), ", ")
	if c := checked(t, "SELECT "+ones); len(c.Cols) != api.MaxCols {
		t.Errorf("%v", c.Cols)
	}
	if c := checked(t, "SELECT * FROM wide"); len(c.Cols) != api.MaxCols {
		t.Errorf("%v", c.Cols)
	}
	refuses(t, api.ErrLong, "SELECT "+ones+", 1", "SELECT *, 1 FROM wide", "SELECT 1, * FROM wide", "SELECT *, * FROM wide", "SELECT * FROM t, wide", "SELECT DISTINCT "+ones+", 1", "SELECT "+ones+", 1 HAVING x", "SELECT (SELECT "+ones+", 1)", "SELECT "+ones+", 1, 2 UNION SELECT x", "SELECT 1 FROM t, (SELECT *, 1 AS x FROM wide) AS t", "SELECT 1 FROM (SELECT *, 1 AS c1 FROM wide) AS x", "SELECT EXISTS (SELECT * FROM wide, t)")
	refuses(t, api.ErrColumn, "SELECT "+ones+", 1, x", "SELECT *, *, *, x FROM wide", "SELECT *, "+ones+", x, NULL FROM t")
	refuses(t, api.ErrType, "SELECT *, *, NULL, x FROM wide", "SELECT "+ones+", "+ones+", NULL")
	refuses(t, api.ErrAgg, "SELECT "+ones+", 1, * FROM t GROUP BY a", "SELECT *, *, count(x), y FROM t, wide")
	checked(t, "SELECT 1 FROM wide, wide AS x, wide AS y, t")
}

// P6.6: as many columns as there can be come out of stars: they are too many, and not kept.
func TestTooManyStars(t *testing.T) {
	a := tree(t, "SELECT * FROM t")
	stars, from := &a.Kids[0], &a.Kids[1]
	for i := range 450 {
		stars.Kids = append(stars.Kids, api.Ast{Kind: api.AStar})
		from.Kids = append(from.Kids, api.Ast{Kind: api.ATable, Name: "wide", Alias: fmt.Sprint("x", i)})
	}
	refusesTree(t, "450 tables, 451 stars", schemas(), a, api.ErrLong)
	a.Kids[0] = tree(t, "SELECT x449.c16, x0.c1, b, t.a").Kids[0]
	c, bad := plan.Check(schemas(), a)
	if bad != api.OK || c.Rel.Exprs[0].Col != 450*16+1 || c.Rel.Exprs[1].Col != 2 || len(c.Rel.Kids[0].Cols) != 450*16+2 {
		t.Errorf("450 tables: error %d: %v", bad, c.Cols)
	}
}

// P6.6: DISTINCT.
func TestDistinct(t *testing.T) {
	means(t, "SELECT DISTINCT a FROM t WHERE TRUE", "distinct{map(0.0:INT)[a INT]{filter(TRUE){"+t_+"}}}")
	means(t, "SELECT DISTINCT max(a) FROM t GROUP BY b HAVING TRUE", "distinct{map(0.1:INT?)[c1 INT?]{filter(TRUE){group(0.1:TEXT?; max:INT(0.0:INT))[b TEXT?, INT?]{"+t_+"}}}}")
}

// P6.2: FROM, WHERE, GROUP BY, the items, HAVING: the first error in this order.
func TestSelectOrder(t *testing.T) {
	parts := []struct {
		clause string
		right  string
		wrong  map[string]api.Errno
	}{
		{"FROM", "t, u", map[string]api.Errno{"x": api.ErrTable, "t, t": api.ErrTwice, "t JOIN u ON c": api.ErrColumn, "t JOIN u ON a": api.ErrAmbiguous}},
		{"WHERE", "b = 'a'", map[string]api.Errno{"a = 1": api.ErrAmbiguous, "c = 1": api.ErrColumn, "f()": api.ErrFunc, "b": api.ErrType, "count(*) = 1": api.ErrAgg}},
		{"GROUP BY", "b", map[string]api.Errno{"b, c": api.ErrColumn, "b, a": api.ErrAmbiguous}},
		{"SELECT", "b", map[string]api.Errno{"c": api.ErrColumn, "t.a": api.ErrAgg, "NULL": api.ErrType, "f(1)": api.ErrFunc, strings.Repeat("1, ", 16) + "1": api.ErrLong}},
		{"HAVING", "b = 'a'", map[string]api.Errno{"c = 1": api.ErrColumn, "b": api.ErrType, "t.a = 1": api.ErrAgg, "f()": api.ErrFunc}},
	}
	write := func(l [5]string) string {
		return "SELECT " + l[3] + " FROM " + l[0] + " WHERE " + l[1] + " GROUP BY " + l[2] + " HAVING " + l[4]
	}
	var right [5]string
	for i, p := range parts {
		right[i] = p.right
	}
	checked(t, write(right))
	for i, p := range parts {
		for first, want := range p.wrong {
			l := right
			l[i] = first
			refuses(t, want, write(l))
			for j := i + 1; j < len(parts); j++ {
				for second := range parts[j].wrong {
					m := l
					m[j] = second
					refuses(t, want, write(m))
				}
			}
		}
	}
}
