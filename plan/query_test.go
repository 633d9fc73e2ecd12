package plan_test

import (
	"strings"
	"testing"

	"freshet/api"
)

// P6.2: ATop.
func TestTop(t *testing.T) {
	for s, want := range map[string]string{
		"SELECT a, b FROM t LIMIT 0":                             "top 0",
		"SELECT a, b FROM t ORDER BY b, a DESC LIMIT 7":          "top 7 1 0-",
		"SELECT a, b FROM t ORDER BY a DESC, a, b LIMIT 1000000": "top 1000000 0- 0 1",
	} {
		means(t, s, want+"{map(0.0:INT, 0.1:TEXT?)[a INT, b TEXT?]{get t[a INT, b TEXT?]}}")
	}
	means(t, "SELECT 1, 2 AS x, 3 ORDER BY c3, x, c1 LIMIT 1", "top 1 2 1 0{map(1, 2, 3)[c1 INT, x INT, c3 INT]{one}}")
	means(t, "(SELECT 1 AS a LIMIT 2) ORDER BY a LIMIT 1", "top 1 0{top 2{map(1)[a INT]{one}}}")
	means(t, "SELECT 1 AS a, 2 AS b UNION SELECT 3, 4 ORDER BY b LIMIT 1", "top 1 1{distinct{union[a INT, b INT]{map(1, 2)[a INT, b INT]{one}, map(3, 4)[c1 INT, c2 INT]{one}}}}")
	refuses(t, api.ErrColumn, "SELECT a AS c FROM t ORDER BY a LIMIT 1", "SELECT a FROM t ORDER BY b LIMIT 1", "SELECT a, 1 AS a FROM t ORDER BY c, a LIMIT 1", "SELECT 1 ORDER BY c2 LIMIT 1", "SELECT 1 AS a UNION SELECT 2 AS b ORDER BY b LIMIT 1", "SELECT x ORDER BY y LIMIT 1", "SELECT (SELECT b FROM t AS x ORDER BY a LIMIT 1) FROM t")
	refuses(t, api.ErrAmbiguous, "SELECT a, 1 AS a FROM t ORDER BY a LIMIT 1", "SELECT a, a FROM t ORDER BY a LIMIT 1", "SELECT 1 AS c2, 2 ORDER BY c2, x LIMIT 1", "SELECT a, b, a FROM t ORDER BY b, a LIMIT 1")
	refuses(t, api.ErrTable, "SELECT 1 FROM x ORDER BY x LIMIT 1")
}

// P6.2: ASet: what it is.
func TestSets(t *testing.T) {
	kids := func(wrap string) string {
		l := []string{"map(0.0:INT, 0.1:TEXT?)[a INT, b TEXT?]{get t[a INT, b TEXT?]}", "map(0.2:INT?, 'x')[d INT?, c2 TEXT]{get w[p BOOL, q BYTES, r INT?, s DEC]}"}
		if wrap != "" {
			l[0], l[1] = wrap+"{"+l[0]+"}", wrap+"{"+l[1]+"}"
		}
		return "{" + strings.Join(l, ", ") + "}"
	}
	for op, want := range map[string]string{
		"UNION ALL":     "union[a INT?, b TEXT?]" + kids(""),
		"UNION":         "distinct{union[a INT?, b TEXT?]" + kids("") + "}",
		"EXCEPT ALL":    "except[a INT, b TEXT?]" + kids(""),
		"EXCEPT":        "except[a INT, b TEXT?]" + kids("distinct"),
		"INTERSECT ALL": "inter[a INT, b TEXT?]" + kids(""),
		"INTERSECT":     "inter[a INT, b TEXT?]" + kids("distinct"),
	} {
		means(t, "SELECT a, b FROM t "+op+" SELECT r AS d, 'x' FROM w", want)
	}
}

// P6.2: of UNION a column may be NULL, if either may; of the others, if the left one may.
func TestSetNulls(t *testing.T) {
	of := map[bool]string{false: "c1 FROM wide", true: "r FROM w"}
	for _, op := range []string{"UNION", "UNION ALL", "EXCEPT", "EXCEPT ALL", "INTERSECT", "INTERSECT ALL"} {
		for _, left := range []bool{false, true} {
			for _, right := range []bool{false, true} {
				s := "SELECT " + of[left] + " " + op + " SELECT " + of[right]
				c := checked(t, s)
				if c.Cols[0].Null != (left || right && op[:5] == "UNION") {
					t.Errorf("%q: %v", s, c.Cols)
				}
				mustBeRight(t, s, c)
			}
		}
	}
}

// P6.2: ASet: what it is not; the left query first, then the right one, then both.
func TestWrongSets(t *testing.T) {
	for _, op := range []string{" UNION ", " UNION ALL ", " EXCEPT ", " EXCEPT ALL ", " INTERSECT ", " INTERSECT ALL "} {
		refuses(t, api.ErrColumns, "SELECT 1"+op+"SELECT 1, 2", "SELECT 'a', 2"+op+"SELECT 1", "SELECT a, b FROM t"+op+"SELECT b FROM t")
		refuses(t, api.ErrType, "SELECT a FROM t"+op+"SELECT b FROM t", "SELECT a FROM t"+op+"SELECT a FROM u", "SELECT 1.0"+op+"SELECT 1", "SELECT 'a'"+op+"SELECT x''", "SELECT 1, 2, 3"+op+"SELECT 1, 2, TRUE", "SELECT 1, 'a'"+op+"SELECT 'a', 'a'", "SELECT NULL"+op+"SELECT x", "SELECT 1"+op+"SELECT NULL", "SELECT 1 + 1.0"+op+"SELECT 1")
		refuses(t, api.ErrColumn, "SELECT x"+op+"SELECT a FROM y", "SELECT 1"+op+"SELECT x, y")
		refuses(t, api.ErrTable, "SELECT 1 FROM x"+op+"SELECT y", "SELECT 1, 2"+op+"SELECT 1 FROM x")
		checked(t, "SELECT 1.0"+op+"SELECT a FROM u")
		checked(t, "SELECT a, b, a FROM t"+op+"SELECT 2, 'a', 3")
	}
}

const (
	t_   = "get t[a INT, b TEXT?]"
	u_   = "get u[a DEC?]"
	both = "[a INT, b TEXT?, a DEC?]"
)

// from asks what the FROM of SELECT 1 FROM .. is.
func fromMeans(t *testing.T, s, want string) {
	t.Helper()
	means(t, "SELECT 1 FROM "+s, "map(1)[c1 INT]{"+want+"}")
}

// P6.3: tables, commas and joins.
func TestFrom(t *testing.T) {
	means(t, "SELECT 1", "map(1)[c1 INT]{one}")
	fromMeans(t, "t", t_)
	fromMeans(t, "t AS x", t_)
	fromMeans(t, "t, u", "join(TRUE){"+t_+", "+u_+"}")
	fromMeans(t, "t, u, t AS x", "join(TRUE){join(TRUE){"+t_+", "+u_+"}, "+t_+"}")
	fromMeans(t, "t JOIN u ON TRUE", "join(TRUE){"+t_+", "+u_+"}")
	fromMeans(t, "t JOIN u ON t.a = u.a", "join(=:BOOL?(0.0:INT, 0.2:DEC?)){"+t_+", "+u_+"}")
	fromMeans(t, "u JOIN t ON b IS NULL", "join(isnull:BOOL(0.2:TEXT?)){"+u_+", "+t_+"}")
	fromMeans(t, "t JOIN u ON NULL", "join(NULL){"+t_+", "+u_+"}")
	fromMeans(t, "t LEFT JOIN u ON t.a = 1", "left(=:BOOL(0.0:INT, 1)){"+t_+", "+u_+"}")
	fromMeans(t, "t, u JOIN t AS x ON b IS NULL, u AS y", "join(TRUE){join(TRUE){"+t_+", join(isnull:BOOL(0.2:TEXT?)){"+u_+", "+t_+"}}, "+u_+"}")
	fromMeans(t, "t JOIN u ON TRUE LEFT JOIN t AS x ON u.a = x.a", "left(=:BOOL?(0.2:DEC?, 0.3:INT)){join(TRUE){"+t_+", "+u_+"}, "+t_+"}")
	means(t, "SELECT * FROM t, u", "map(0.0:INT, 0.1:TEXT?, 0.2:DEC?)"+both+"{join(TRUE){"+t_+", "+u_+"}}")
	means(t, "SELECT * FROM u, t", "map(0.0:DEC?, 0.1:INT, 0.2:TEXT?)[a DEC?, a INT, b TEXT?]{join(TRUE){"+u_+", "+t_+"}}")
	refuses(t, api.ErrTable, "SELECT 1 FROM x", "SELECT y FROM x", "SELECT 1 FROM t, x AS t", "SELECT 1 FROM t JOIN x ON y", "SELECT 1 FROM t LEFT JOIN x AS t ON y", "SELECT 1 FROM (SELECT 1 FROM x) AS x", "SELECT 1 FROM a")
}

// P6.3: of a LEFT JOIN the right columns may be NULL, but in its condition.
func TestLeft(t *testing.T) {
	means(t, "SELECT * FROM t LEFT JOIN t AS x ON x.a = 1", "map(0.0:INT, 0.1:TEXT?, 0.2:INT?, 0.3:TEXT?)[a INT, b TEXT?, a INT?, b TEXT?]{left(=:BOOL(0.2:INT, 1)){"+t_+", "+t_+"}}")
	means(t, "SELECT x.a FROM u LEFT JOIN t AS x ON TRUE JOIN t AS y ON x.a = y.a", "map(0.1:INT?)[a INT?]{join(=:BOOL?(0.1:INT?, 0.3:INT)){left(TRUE){"+u_+", "+t_+"}, "+t_+"}}")
	means(t, "SELECT t.a FROM (SELECT p, s FROM w) AS x LEFT JOIN t ON p WHERE t.a = 1", "map(0.2:INT?)[a INT?]{filter(=:BOOL?(0.2:INT?, 1)){left(0.0:BOOL){map(0.0:BOOL, 0.3:DEC)[p BOOL, s DEC]{get w[p BOOL, q BYTES, r INT?, s DEC]}, "+t_+"}}}")
	means(t, "SELECT y.a FROM u LEFT JOIN t ON TRUE LEFT JOIN LATERAL (SELECT t.a) AS y ON y.a = t.a", "map(0.3:INT?)[a INT?]{left lateral(=:BOOL?(0.3:INT?, 0.1:INT?)){left(TRUE){"+u_+", "+t_+"}, map(1.1:INT?)[a INT?]{one}}}")
	for _, cols := range []struct{ from, want string }{
		{"t, u LEFT JOIN t AS x ON TRUE", "[a INT, b TEXT?, a DEC?, a INT?, b TEXT?]"},
		{"t LEFT JOIN t AS x ON TRUE, t AS y", "[a INT, b TEXT?, a INT?, b TEXT?, a INT, b TEXT?]"},
		{"t LEFT JOIN t AS x ON TRUE JOIN t AS y ON TRUE", "[a INT, b TEXT?, a INT?, b TEXT?, a INT, b TEXT?]"},
		{"t JOIN t AS x ON TRUE LEFT JOIN t AS y ON TRUE", "[a INT, b TEXT?, a INT, b TEXT?, a INT?, b TEXT?]"},
	} {
		if c := checked(t, "SELECT * FROM "+cols.from); showCols(c.Cols) != cols.want || showCols(c.Rel.Kids[0].Cols) != cols.want {
			t.Errorf("%q: %s of %s; want %s", cols.from, showCols(c.Cols), showCols(c.Rel.Kids[0].Cols), cols.want)
		}
	}
}

// P6.3: queries as sources: what they see.
func TestInner(t *testing.T) {
	fromMeans(t, "(SELECT a AS c FROM t) AS x", "map(0.0:INT)[c INT]{"+t_+"}")
	fromMeans(t, "(SELECT 1 LIMIT 2) x, (SELECT 2 UNION ALL SELECT 3) y", "join(TRUE){top 2{map(1)[c1 INT]{one}}, union[c1 INT]{map(2)[c1 INT]{one}, map(3)[c1 INT]{one}}}")
	means(t, "SELECT x.c, c2 FROM (SELECT a AS c, 1 FROM t) AS x", "map(0.0:INT, 0.1:INT)[c INT, c2 INT]{map(0.0:INT, 1)[c INT, c2 INT]{"+t_+"}}")
	// The scopes outside of the query are seen; what stands ahead in the FROM is not.
	means(t, "SELECT (SELECT x.a FROM (SELECT t.a FROM u) AS x) FROM t", "map(scalar:INT?{map(0.0:INT)[a INT]{map(1.0:INT)[a INT]{"+u_+"}}})[c1 INT?]{"+t_+"}")
	means(t, "SELECT 1 FROM t WHERE EXISTS (SELECT 1 FROM u, (SELECT t.b) AS x)", "map(1)[c1 INT]{filter(exists:BOOL{map(1)[c1 INT]{join(TRUE){"+u_+", map(1.1:TEXT?)[b TEXT?]{one}}}}){"+t_+"}}")
	means(t, "SELECT 1 FROM t AS y WHERE EXISTS (SELECT 1 FROM t, (SELECT a) AS x)", "map(1)[c1 INT]{filter(exists:BOOL{map(1)[c1 INT]{join(TRUE){"+t_+", map(1.0:INT)[a INT]{one}}}}){"+t_+"}}")
	refuses(t, api.ErrColumn, "SELECT 1 FROM t, (SELECT a) AS x", "SELECT 1 FROM t JOIN (SELECT t.a) AS x ON TRUE", "SELECT 1 FROM (SELECT a) AS x, t", "SELECT 1 FROM t LEFT JOIN (SELECT 1 FROM u WHERE b IS NULL) AS x ON TRUE")
	refuses(t, api.ErrTwice, "SELECT 1 FROM (SELECT a, 1 AS a FROM t) AS x", "SELECT 1 FROM (SELECT * FROM t, u) AS x", "SELECT 1 FROM t, LATERAL (SELECT t.a, t.a) AS x", "SELECT z FROM (SELECT 1 AS a, 2 AS a) AS x", "SELECT 1 FROM (SELECT 1 AS a, 2 AS a UNION SELECT 1, 2) AS x")
	checked(t, "SELECT 1 FROM (SELECT 1, 2 UNION SELECT 1 AS a, 2 AS a) AS x")
}

// P6.3: LATERAL.
func TestLateral(t *testing.T) {
	sub := "map(1.0:INT)[c INT]{one}"
	fromMeans(t, "t, LATERAL (SELECT t.a AS c) AS x", "join lateral(TRUE){"+t_+", "+sub+"}")
	fromMeans(t, "t JOIN LATERAL (SELECT a AS c) AS x ON c = t.a", "join lateral(=:BOOL(0.2:INT, 0.0:INT)){"+t_+", "+sub+"}")
	fromMeans(t, "t LEFT JOIN LATERAL (SELECT a AS c) AS x ON c = t.a", "left lateral(=:BOOL(0.2:INT, 0.0:INT)){"+t_+", "+sub+"}")
	fromMeans(t, "t, LATERAL (SELECT 1 AS c FROM u WHERE t.a = u.a) AS x", "join lateral(TRUE){"+t_+", map(1)[c INT]{filter(=:BOOL?(1.0:INT, 0.0:DEC?)){"+u_+"}}}")
	fromMeans(t, "t, LATERAL (SELECT 1) AS x", "join lateral(TRUE){"+t_+", map(1)[c1 INT]{one}}")
	fromMeans(t, "LATERAL (SELECT 1) AS x", "map(1)[c1 INT]{one}")
	fromMeans(t, "LATERAL (SELECT 1) AS x, t", "join(TRUE){map(1)[c1 INT]{one}, "+t_+"}")
	fromMeans(t, "u, t, LATERAL (SELECT t.a AS c) AS x", "join lateral(TRUE){join(TRUE){"+u_+", "+t_+"}, map(1.1:INT)[c INT]{one}}")
	fromMeans(t, "t, LATERAL (SELECT 1 AS d) AS x, LATERAL (SELECT x.d + t.a AS c) AS y", "join lateral(TRUE){join lateral(TRUE){"+t_+", map(1)[d INT]{one}}, map(+:INT(1.2:INT, 1.0:INT))[c INT]{one}}")
	// The right side of a join sees its left side alone; the left side of one sees nothing of what stands ahead.
	fromMeans(t, "t, u JOIN LATERAL (SELECT u.a AS c) AS x ON TRUE", "join(TRUE){"+t_+", join lateral(TRUE){"+u_+", map(1.0:DEC?)[c DEC?]{one}}}")
	fromMeans(t, "t, LATERAL (SELECT 1) AS x JOIN u ON TRUE", "join(TRUE){"+t_+", join(TRUE){map(1)[c1 INT]{one}, "+u_+"}}")
	refuses(t, api.ErrColumn, "SELECT 1 FROM LATERAL (SELECT t.a) AS x, t", "SELECT 1 FROM t, u JOIN LATERAL (SELECT t.b) AS x ON TRUE", "SELECT 1 FROM t, u JOIN LATERAL (SELECT b) AS x ON TRUE", "SELECT 1 FROM t, LATERAL (SELECT b) AS x JOIN u ON TRUE", "SELECT 1 FROM t, LATERAL (SELECT b) AS x JOIN u ON TRUE JOIN w ON TRUE", "SELECT 1 FROM LATERAL (SELECT t.a) AS x JOIN t ON TRUE", "SELECT 1 FROM t JOIN (SELECT 1) AS x ON TRUE JOIN (SELECT t.a) AS y ON TRUE", "SELECT 1 FROM t, LATERAL (SELECT x.c1) AS x")
	// Its own scope lies ahead of all others outside.
	means(t, "SELECT (SELECT 1 FROM u, LATERAL (SELECT u.a, t.b) AS x) FROM t", "map(scalar:INT?{map(1)[c1 INT]{join lateral(TRUE){"+u_+", map(1.0:DEC?, 2.1:TEXT?)[a DEC?, b TEXT?]{one}}}})[c1 INT?]{"+t_+"}")
	means(t, "SELECT (SELECT 1 FROM u, (SELECT a) AS x) FROM t", "map(scalar:INT?{map(1)[c1 INT]{join(TRUE){"+u_+", map(1.0:INT)[a INT]{one}}}})[c1 INT?]{"+t_+"}")
	means(t, "SELECT (SELECT 1 FROM u, LATERAL (SELECT a) AS x) FROM t", "map(scalar:INT?{map(1)[c1 INT]{join lateral(TRUE){"+u_+", map(1.0:DEC?)[a DEC?]{one}}}})[c1 INT?]{"+t_+"}")
	refuses(t, api.ErrAmbiguous, "SELECT 1 FROM t, u, LATERAL (SELECT a) AS x")
}

// P6.3: no source has the name of one ahead in the same FROM.
func TestSourceNames(t *testing.T) {
	refuses(t, api.ErrTwice, "SELECT 1 FROM t, t", "SELECT 1 FROM t, u AS t", "SELECT 1 FROM t AS u, u", "SELECT 1 FROM t AS x, u AS x", "SELECT 1 FROM t JOIN t ON TRUE", "SELECT 1 FROM t, u JOIN t ON TRUE", "SELECT 1 FROM t JOIN u ON TRUE, t", "SELECT 1 FROM t JOIN u ON TRUE JOIN t ON TRUE", "SELECT 1 FROM t, (SELECT 1) AS t", "SELECT 1 FROM (SELECT 1) AS t, t", "SELECT 1 FROM (SELECT 1) AS x, LATERAL (SELECT 2) AS x", "SELECT 1 FROM t, u, w JOIN wide ON TRUE, u", "SELECT 1 FROM t JOIN t ON nosuch", "SELECT 1 FROM t, t WHERE nosuch", "SELECT 1 FROM t, u JOIN (SELECT 1) AS t ON nosuch, nosuch")
	for _, s := range []string{"t AS x, t", "t, t AS x", "t AS u, u AS t", "(SELECT 1 FROM t) AS x, t", "t, (SELECT 1 FROM t) AS x", "t AS x, (SELECT 1 FROM t AS x) AS y", "t AS a", "t AS b, LATERAL (SELECT 1 FROM t AS b) AS a"} {
		checked(t, "SELECT 1 FROM "+s)
	}
	checked(t, "SELECT 1 FROM t WHERE EXISTS (SELECT 1 FROM t)")
	// The error of a table, or of a query, is told ahead of it.
	refuses(t, api.ErrColumn, "SELECT 1 FROM t, (SELECT nosuch) AS t", "SELECT 1 FROM t, LATERAL (SELECT c FROM u) AS t")
	refuses(t, api.ErrTwice, "SELECT 1 FROM t, (SELECT 1 AS a, 2 AS a) AS t")
}

// P6.3: a join's condition: in the scope of both sides, within those outside; the left side, the right one, and then it.
func TestOn(t *testing.T) {
	means(t, "SELECT (SELECT 1 FROM u JOIN w ON t.a = r AND u.a = s) FROM t", "map(scalar:INT?{map(1)[c1 INT]{join(and:BOOL?(=:BOOL?(1.0:INT, 0.3:INT?), =:BOOL?(0.0:DEC?, 0.4:DEC))){"+u_+", get w[p BOOL, q BYTES, r INT?, s DEC]}}})[c1 INT?]{"+t_+"}")
	refuses(t, api.ErrColumn, "SELECT 1 FROM t, u JOIN w ON b = 'a'", "SELECT 1 FROM t JOIN u ON r = 1 JOIN w ON TRUE", "SELECT 1 FROM u JOIN w ON t.a = 1, t")
	refuses(t, api.ErrAmbiguous, "SELECT 1 FROM t JOIN u ON a = 1", "SELECT 1 FROM u JOIN t ON a = 1")
	refuses(t, api.ErrType, "SELECT 1 FROM t JOIN u ON t.a", "SELECT 1 FROM t JOIN u ON 1", "SELECT 1 FROM t JOIN u ON u.a = b", "SELECT 1 FROM t LEFT JOIN u ON 'a'")
	refuses(t, api.ErrAgg, "SELECT 1 FROM t JOIN u ON count(*) = 1", "SELECT count(*) FROM t JOIN u ON max(b) = b", "SELECT 1 FROM t LEFT JOIN u ON sum(c)")
	refuses(t, api.ErrTable, "SELECT 1 FROM t JOIN x ON 1", "SELECT 1 FROM x JOIN t ON y", "SELECT 1 FROM x JOIN (SELECT y) AS z ON 1", "SELECT 1 FROM t JOIN u ON TRUE JOIN x ON y")
	refuses(t, api.ErrColumn, "SELECT 1 FROM t JOIN u ON y JOIN x ON y", "SELECT 1 FROM t JOIN u ON y, x")
}

// P6.4: WHERE.
func TestWhere(t *testing.T) {
	means(t, "SELECT a FROM t WHERE b = 'a'", "map(0.0:INT)[a INT]{filter(=:BOOL?(0.1:TEXT?, 'a')){"+t_+"}}")
	means(t, "SELECT 1 WHERE TRUE", "map(1)[c1 INT]{filter(TRUE){one}}")
	means(t, "SELECT 1 FROM t WHERE NULL", "map(1)[c1 INT]{filter(NULL){"+t_+"}}")
	means(t, "SELECT 1 FROM t WHERE coalesce(NULL, NULL)", "map(1)[c1 INT]{filter(coalesce:NONE?(NULL, NULL)){"+t_+"}}")
	means(t, "SELECT 1 FROM w WHERE p", "map(1)[c1 INT]{filter(0.0:BOOL){get w[p BOOL, q BYTES, r INT?, s DEC]}}")
	refuses(t, api.ErrType, "SELECT 1 WHERE 1", "SELECT 1 FROM t WHERE a", "SELECT 1 FROM t WHERE b", "SELECT 1 WHERE 'TRUE'", "SELECT 1 WHERE x'01'", "SELECT 1 WHERE 1.0", "SELECT x WHERE 1", "SELECT 1 FROM t WHERE (SELECT a FROM u)")
	refuses(t, api.ErrColumn, "SELECT a AS x FROM t WHERE x = 1", "SELECT 1 WHERE a = 1", "SELECT count(*) FROM t WHERE c = 1 GROUP BY d")
	refuses(t, api.ErrAgg, "SELECT a FROM t WHERE count(*) = 1", "SELECT count(*) FROM t WHERE count(*) = 1", "SELECT a FROM t WHERE max(a) = 1 GROUP BY a", "SELECT a FROM t WHERE count(nosuch)", "SELECT a FROM t WHERE sum() = 1", "SELECT a FROM t WHERE min(a, a)", "SELECT 1 WHERE sum(1 + 'a') = 1")
}
