package parse_test

import (
	"strings"
	"testing"

	"freshet/api"
	"freshet/parse"
)

// again asks that a text is printed as another one.
func again(t *testing.T, s, want string) {
	t.Helper()
	a, bad, at := parse.Parse(s)
	if bad != api.OK || at != 0 {
		t.Errorf("%q: error %d at %d", s, bad, at)
		return
	}
	prints(t, a, want)
}

// P5.1, P5.3: the examples.
func TestExamples(t *testing.T) {
	refuses(t, "select a, b.c x from t as b where not a = 1 and b.c is not null;", api.ErrToken, 14)
	again(t, "select a, b.c as x from t b where not a = 1 and b.c is not null;", "SELECT a, b.c AS x FROM t AS b WHERE (NOT (a = 1)) AND (b.c IS NOT NULL)")
	again(t, "SELECT -1 - - 2, -(3) FROM t ORDER BY x DESC LIMIT 2", "SELECT -1 - -2, -(3) FROM t ORDER BY x DESC LIMIT 2")
	again(t, "SELECT 1 UNION SELECT 2 INTERSECT SELECT 3", "SELECT 1 UNION (SELECT 2 INTERSECT SELECT 3)")
	again(t, "SELECT (SELECT 1 UNION (SELECT 2) EXCEPT SELECT 3)", "SELECT (SELECT 1 UNION SELECT 2 EXCEPT SELECT 3)")
	again(t, "(SELECT 1 UNION SELECT 2) INTERSECT SELECT 3", "(SELECT 1 UNION SELECT 2) INTERSECT SELECT 3")
	refuses(t, "SELECT ((SELECT 1 UNION SELECT 2) INTERSECT SELECT 3)", api.ErrToken, 34)
	again(t, "INSERT INTO t VALUES (1, -1.5, 'a', NULL)", "INSERT INTO t VALUES (1, -1.5000, 'a', NULL)")
	refuses(t, "", api.ErrEnd, 0)
	refuses(t, "SELECT", api.ErrEnd, 6)
	refuses(t, "SELECT 9223372036854775808", api.ErrDigit, 7)
	refuses(t, "SELECT a = b = c", api.ErrToken, 13)
	refuses(t, "CREATE TABLE t ()", api.ErrToken, 16)
}

// P5.1: what makes, and what drops.
func TestMakings(t *testing.T) {
	def := func(name string, num int, flag bool) api.Ast {
		return api.Ast{Kind: api.AColDef, Name: name, Num: num, Flag: flag}
	}
	all := []api.Ast{def("a", api.Bool, false), def("b", api.Int, true), def("c1", api.Dec, false), def("_d", api.Text, true), def("e", api.Bytes, false)}
	reads(t, "CREATE TABLE t (a BOOL, b INT NOT NULL, c1 DEC, _d TEXT NOT NULL, e BYTES)", api.Ast{Kind: api.ACreateTable, Name: "t", Kids: all})
	reads(t, "create table T(A int);", api.Ast{Kind: api.ACreateTable, Name: "t", Kids: []api.Ast{def("a", api.Int, false)}})
	reads(t, "CREATE VIEW v AS SELECT 1", api.Ast{Kind: api.ACreateView, Name: "v", Kids: []api.Ast{one(1)}})
	reads(t, "CREATE VIEW v AS ((SELECT 1)) LIMIT 2;", api.Ast{Kind: api.ACreateView, Name: "v", Kids: []api.Ast{top(2, one(1))}})
	place := func(name string) api.Ast { return api.Ast{Kind: api.AName, Name: name} }
	reads(t, "CREATE INDEX i ON t (a)", api.Ast{Kind: api.ACreateIndex, Name: "i", Alias: "t", Kids: []api.Ast{place("a")}})
	reads(t, "Create Index I On T(B,A , b)", api.Ast{Kind: api.ACreateIndex, Name: "i", Alias: "t", Kids: []api.Ast{place("b"), place("a"), place("b")}})
	for i, thing := range []string{"TABLE", "VIEW", "INDEX"} {
		reads(t, "DROP "+thing+" x", api.Ast{Kind: api.ADrop, Num: i + 1, Name: "x"})
	}
	reads(t, "SUBSCRIBE v", api.Ast{Kind: api.ASubscribe, Name: "v"})
}

// P5.1: what is inserted and deleted.
func TestChanges(t *testing.T) {
	row := func(l ...api.Ast) api.Ast { return node(api.ARow, l...) }
	insert := func(rows ...api.Ast) api.Ast { return api.Ast{Kind: api.AInsert, Name: "t", Kids: rows} }
	reads(t, "INSERT INTO t VALUES (1)", insert(row(integer(1))))
	reads(t, "INSERT INTO t VALUES (TRUE, FALSE, NULL, 'a', x'00', 0, 1.5), (-1), (- 0.5 , -0)", insert(row(truth(1), truth(0), null(), text("a"), octets("\x00"), integer(0), decimal(15000)), row(integer(-1)), row(decimal(-5000), integer(0))))
	reads(t, "INSERT INTO t VALUES (-9223372036854775808, -922337203685477.5808, - 9223372036854775808)", insert(row(integer(least), decimal(least), integer(least))))
	reads(t, "DELETE FROM t", api.Ast{Kind: api.ADelete, Name: "t"})
	reads(t, "DELETE FROM t WHERE a OR b", api.Ast{Kind: api.ADelete, Name: "t", Kids: []api.Ast{op(api.OpOr, column("a"), column("b"))}})
}

// P5.1: the parts of a SELECT.
func TestSelects(t *testing.T) {
	q := query(item(column("a")), node(api.AStar), item(integer(1)))
	q.Kids[0].Kids[2].Name = "x"
	reads(t, "SELECT a, *, 1 AS x", q)
	q.Flag = true
	reads(t, "SELECT DISTINCT a, *, 1 AS x", q)
	reads(t, "SELECT *", query(node(api.AStar)))
	q = query(node(api.AStar))
	a, b := column("a"), column("b")
	reads(t, "SELECT * FROM t", with(q, api.AFrom, table("t", "")))
	reads(t, "SELECT * WHERE a", with(q, api.AWhere, a))
	reads(t, "SELECT * GROUP BY a", with(q, api.AGroup, a))
	reads(t, "SELECT * GROUP BY t.a, b, t.a", with(q, api.AGroup, of("t", "a"), b, of("t", "a")))
	reads(t, "SELECT * HAVING a", with(q, api.AHaving, a))
	all := with(with(with(with(q, api.AFrom, table("t", "")), api.AWhere, a), api.AGroup, b), api.AHaving, op(api.OpAnd, a, b))
	reads(t, "SELECT * FROM t WHERE a GROUP BY b HAVING a AND b;", all)
	reads(t, "SELECT * FROM t WHERE a GROUP BY b HAVING a AND b ORDER BY a LIMIT 1", top(1, all, key("a", false)))
}

// P5.1: what stands behind FROM.
func TestSources(t *testing.T) {
	from := func(s string, l ...api.Ast) {
		t.Helper()
		reads(t, "SELECT * FROM "+s, with(query(node(api.AStar)), api.AFrom, l...))
	}
	a, b, c := table("a", ""), table("b", ""), table("c", "")
	x, y := column("x"), column("y")
	from("a, b, c", a, b, c)
	from("a b", table("a", "b"))
	from("a AS b", table("a", "b"))
	from("a AS a, a b", table("a", "a"), table("a", "b"))
	from("(SELECT 1) x", sub(false, one(1), "x"))
	from("(SELECT 1) AS x", sub(false, one(1), "x"))
	from("LATERAL (SELECT 1) x, LATERAL ((SELECT 2)) AS y", sub(true, one(1), "x"), sub(true, one(2), "y"))
	from("((SELECT 1) UNION SELECT 2 LIMIT 3) x", sub(false, top(3, set(1, false, one(1), one(2))), "x"))
	from("a JOIN b ON x", join(1, a, b, x))
	from("a INNER JOIN b ON x", join(1, a, b, x))
	from("a LEFT JOIN b ON x", join(2, a, b, x))
	from("a x JOIN b y ON x LEFT JOIN c ON y = x", join(2, join(1, table("a", "x"), table("b", "y"), x), c, op(api.OpEq, y, x)))
	from("a LEFT JOIN b ON x INNER JOIN c ON y, c JOIN LATERAL (SELECT 1) z ON TRUE", join(1, join(2, a, b, x), c, y), join(1, c, sub(true, one(1), "z"), truth(1)))
}

// P5.1: set operations group to the left, INTERSECT ahead of the others.
func TestSets(t *testing.T) {
	q, r, s, u := one(1), one(2), one(3), one(4)
	reads(t, "SELECT 1 UNION SELECT 2", set(1, false, q, r))
	reads(t, "SELECT 1 UNION ALL SELECT 2", set(1, true, q, r))
	reads(t, "SELECT 1 EXCEPT SELECT 2", set(2, false, q, r))
	reads(t, "SELECT 1 EXCEPT ALL SELECT 2", set(2, true, q, r))
	reads(t, "SELECT 1 INTERSECT SELECT 2", set(3, false, q, r))
	reads(t, "SELECT 1 INTERSECT ALL SELECT 2", set(3, true, q, r))
	reads(t, "SELECT 1 UNION SELECT 2 EXCEPT ALL SELECT 3 UNION SELECT 4", set(1, false, set(2, true, set(1, false, q, r), s), u))
	reads(t, "SELECT 1 INTERSECT SELECT 2 INTERSECT ALL SELECT 3", set(3, true, set(3, false, q, r), s))
	reads(t, "SELECT 1 UNION SELECT 2 INTERSECT SELECT 3 EXCEPT SELECT 4", set(2, false, set(1, false, q, set(3, false, r, s)), u))
	reads(t, "SELECT 1 INTERSECT SELECT 2 EXCEPT SELECT 3 INTERSECT SELECT 4", set(2, false, set(3, false, q, r), set(3, false, s, u)))
	reads(t, "SELECT 1 UNION (SELECT 2 UNION SELECT 3)", set(1, false, q, set(1, false, r, s)))
	reads(t, "(SELECT 1 UNION SELECT 2) UNION SELECT 3", set(1, false, set(1, false, q, r), s))
	reads(t, "((SELECT 1)) UNION ((SELECT 2 UNION SELECT 3) INTERSECT SELECT 4)", set(1, false, q, set(3, false, set(1, false, r, s), u)))
}

// P5.1: ORDER BY and LIMIT make an ATop, of all set operations ahead.
func TestTops(t *testing.T) {
	q, r := one(1), one(2)
	reads(t, "SELECT 1 LIMIT 0", top(0, q))
	reads(t, "SELECT 1 LIMIT 1000000", top(api.MaxLimit, q))
	reads(t, "SELECT 1 LIMIT 007", top(7, q))
	reads(t, "SELECT 1 ORDER BY a LIMIT 3", top(3, q, key("a", false)))
	reads(t, "SELECT 1 ORDER BY a ASC, b DESC, c LIMIT 3", top(3, q, key("a", false), key("b", true), key("c", false)))
	reads(t, "SELECT 1 UNION SELECT 2 ORDER BY a DESC LIMIT 3", top(3, set(1, false, q, r), key("a", true)))
	reads(t, "SELECT 1 UNION (SELECT 2 LIMIT 3)", set(1, false, q, top(3, r)))
	reads(t, "(SELECT 1 LIMIT 3) UNION SELECT 2", set(1, false, top(3, q), r))
	reads(t, "(SELECT 1 LIMIT 3)", top(3, q))
	reads(t, "(SELECT 1) LIMIT 3", top(3, q))
	reads(t, "((SELECT 1 LIMIT 3)) ORDER BY a LIMIT 4;", top(4, top(3, q), key("a", false)))
}

// reckons asks that an expression has this tree.
func reckons(t *testing.T, s string, want api.Ast) {
	t.Helper()
	reads(t, "SELECT "+s, asks(want))
}

// P5.1: operators, the closer ones first, rows of them to the left.
func TestOperators(t *testing.T) {
	a, b, c, d := column("a"), column("b"), column("c"), column("d")
	for i, sign := range strings.Fields("+ - * / = <> < <= > >= AND OR") {
		reckons(t, "a "+sign+" b", op(api.OpAdd+i, a, b))
		reckons(t, "(a)"+sign+"(b)", op(api.OpAdd+i, a, b))
	}
	for i, sign := range strings.Fields("+ - * /") {
		reckons(t, strings.Join([]string{"a", "b", "c", "d"}, sign), op(api.OpAdd+i, op(api.OpAdd+i, op(api.OpAdd+i, a, b), c), d))
	}
	reckons(t, "a AND b AND c OR a OR NOT b", op(api.OpOr, op(api.OpOr, op(api.OpAnd, op(api.OpAnd, a, b), c), a), op(api.OpNot, b)))
	reckons(t, "a OR b AND c OR d", op(api.OpOr, op(api.OpOr, a, op(api.OpAnd, b, c)), d))
	reckons(t, "a - b + c * d / a - 1", op(api.OpSub, op(api.OpAdd, op(api.OpSub, a, b), op(api.OpDiv, op(api.OpMul, c, d), a)), integer(1)))
	reckons(t, "a + b = c * d", op(api.OpEq, op(api.OpAdd, a, b), op(api.OpMul, c, d)))
	reckons(t, "NOT a = b AND NOT NOT c", op(api.OpAnd, op(api.OpNot, op(api.OpEq, a, b)), op(api.OpNot, op(api.OpNot, c))))
	reckons(t, "a - (b - c)", op(api.OpSub, a, op(api.OpSub, b, c)))
	reckons(t, "(a OR b) AND (c = d) = (NOT a)", op(api.OpAnd, op(api.OpOr, a, b), op(api.OpEq, op(api.OpEq, c, d), op(api.OpNot, a))))
	reckons(t, "a * -b / - - c", op(api.OpDiv, op(api.OpMul, a, op(api.OpNeg, b)), op(api.OpNeg, op(api.OpNeg, c))))
	reckons(t, "-a.b + -(c)", op(api.OpAdd, op(api.OpNeg, of("a", "b")), op(api.OpNeg, c)))
}

// P5.1: a - with a number directly behind it is that number's negative, unless it is a difference's.
func TestNegatives(t *testing.T) {
	a := column("a")
	reckons(t, "-1", integer(-1))
	reckons(t, "- 1.5", decimal(-15000))
	reckons(t, "- --\n1", integer(-1))
	reckons(t, "-0", integer(0))
	reckons(t, "-0.0", decimal(0))
	reckons(t, "-9223372036854775808", integer(least))
	reckons(t, "-922337203685477.5808", decimal(least))
	reckons(t, "- - 9223372036854775808", op(api.OpNeg, integer(least)))
	reckons(t, "-(1)", op(api.OpNeg, integer(1)))
	reckons(t, "-(-1)", op(api.OpNeg, integer(-1)))
	reckons(t, "- - -1", op(api.OpNeg, op(api.OpNeg, integer(-1))))
	reckons(t, "-'a'", op(api.OpNeg, text("a")))
	reckons(t, "-x'00'", op(api.OpNeg, octets("\x00")))
	reckons(t, "-NULL", op(api.OpNeg, null()))
	reckons(t, "-TRUE", op(api.OpNeg, truth(1)))
	reckons(t, "a -1", op(api.OpSub, a, integer(1)))
	reckons(t, "a - -1", op(api.OpSub, a, integer(-1)))
	reckons(t, "a - -9223372036854775808", op(api.OpSub, a, integer(least)))
	reckons(t, "a*-1", op(api.OpMul, a, integer(-1)))
	reckons(t, "-1*-2", op(api.OpMul, integer(-1), integer(-2)))
	reckons(t, "-1-2", op(api.OpSub, integer(-1), integer(2)))
	reckons(t, "(-9223372036854775808)", integer(least))
	reckons(t, "9223372036854775807 = -9223372036854775807", op(api.OpEq, integer(1<<63-1), integer(-1<<63+1)))
}

// P5.1: IS NULL and IN.
func TestTests(t *testing.T) {
	a, b := column("a"), column("b")
	reckons(t, "a IS NULL", isNull(false, a))
	reckons(t, "a + b IS NOT NULL", isNull(true, op(api.OpAdd, a, b)))
	reckons(t, "NOT a IS NULL", op(api.OpNot, isNull(false, a)))
	reckons(t, "a IS NULL AND b", op(api.OpAnd, isNull(false, a), b))
	reckons(t, "a IN (SELECT 1)", in(false, a, one(1)))
	reckons(t, "a NOT IN (SELECT 1 LIMIT 2)", in(true, a, top(2, one(1))))
	reckons(t, "NOT a NOT IN ((SELECT 1) UNION SELECT 2) OR b", op(api.OpOr, op(api.OpNot, in(true, a, set(1, false, one(1), one(2)))), b))
	reckons(t, "-a * b IN (((SELECT 1)))", in(false, op(api.OpMul, op(api.OpNeg, a), b), one(1)))
	reckons(t, "(a IN (SELECT 1)) IN (SELECT 2)", in(false, in(false, a, one(1)), one(2)))
	reckons(t, "(a IS NULL) IS NULL", isNull(false, isNull(false, a)))
}

// P5.1: all that an expression begins with.
func TestPrimes(t *testing.T) {
	a, b, c := column("a"), column("b"), column("c")
	reckons(t, "1", integer(1))
	reckons(t, "1.5", decimal(15000))
	reckons(t, "'it''s'", text("it's"))
	reckons(t, "x'00ff'", octets("\x00\xff"))
	reckons(t, "TRUE", truth(1))
	reckons(t, "FALSE", truth(0))
	reckons(t, "NULL", null())
	reckons(t, "a", a)
	reckons(t, "a.b", of("a", "b"))
	reckons(t, "((a))", a)
	reckons(t, "f()", call("f"))
	reckons(t, "COUNT(*)", star("count"))
	reckons(t, "f(a)", call("f", a))
	reckons(t, "f (a OR b, -1, g(b), (c))", call("f", op(api.OpOr, a, b), integer(-1), call("g", b), c))
	reckons(t, "EXISTS (SELECT 1)", exists(one(1)))
	reckons(t, "NOT EXISTS ((SELECT 1) LIMIT 2)", op(api.OpNot, exists(top(2, one(1)))))
	reckons(t, "(SELECT 1)", scalar(one(1)))
	reckons(t, "((SELECT 1))", scalar(one(1)))
	reckons(t, "((SELECT 1) + 1)", op(api.OpAdd, scalar(one(1)), integer(1)))
	reckons(t, "(SELECT 1 UNION SELECT 2 LIMIT 3) + f((SELECT 4))", op(api.OpAdd, scalar(top(3, set(1, false, one(1), one(2)))), call("f", scalar(one(4)))))
	reckons(t, "CASE WHEN a THEN b END", cases(a, b))
	reckons(t, "CASE WHEN a THEN b ELSE c END", cases(a, b, c))
	reckons(t, "CASE WHEN a OR b THEN b AND c WHEN b THEN a WHEN c THEN NOT c ELSE CASE WHEN a THEN b END + 1 END", cases(op(api.OpOr, a, b), op(api.OpAnd, b, c), b, a, c, op(api.OpNot, c), op(api.OpAdd, cases(a, b), integer(1))))
}
