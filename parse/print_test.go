package parse_test

import (
	"strconv"
	"strings"
	"testing"

	"freshet/api"
	"freshet/lex"
	"freshet/parse"
)

// P5.3: statements that are no queries.
func TestPrintStatements(t *testing.T) {
	var defs, names []api.Ast
	for i := range 5 {
		defs = append(defs, api.Ast{Kind: api.AColDef, Name: "c" + strconv.Itoa(i), Num: i + 1, Flag: i%2 == 1})
		names = append(names, api.Ast{Kind: api.AName, Name: "c" + strconv.Itoa(i)})
	}
	prints(t, api.Ast{Kind: api.ACreateTable, Name: "t", Kids: defs}, "CREATE TABLE t (c0 BOOL, c1 INT NOT NULL, c2 DEC, c3 TEXT NOT NULL, c4 BYTES)")
	prints(t, api.Ast{Kind: api.ACreateTable, Name: "t", Kids: defs[1:2]}, "CREATE TABLE t (c1 INT NOT NULL)")
	prints(t, api.Ast{Kind: api.ACreateView, Name: "v", Kids: []api.Ast{one(1)}}, "CREATE VIEW v AS SELECT 1")
	prints(t, api.Ast{Kind: api.ACreateView, Name: "v", Kids: []api.Ast{set(1, false, top(1, one(1)), one(2))}}, "CREATE VIEW v AS (SELECT 1 LIMIT 1) UNION SELECT 2")
	prints(t, api.Ast{Kind: api.ACreateIndex, Name: "i", Alias: "t", Kids: names}, "CREATE INDEX i ON t (c0, c1, c2, c3, c4)")
	prints(t, api.Ast{Kind: api.ACreateIndex, Name: "i", Alias: "t", Kids: names[:1]}, "CREATE INDEX i ON t (c0)")
	for i, thing := range []string{"TABLE", "VIEW", "INDEX"} {
		prints(t, api.Ast{Kind: api.ADrop, Num: i + 1, Name: "x"}, "DROP "+thing+" x")
	}
	row := node(api.ARow, integer(1), integer(-1), decimal(15000), decimal(-1), text("it's -- "), octets("\x0a\xff"), truth(1), truth(0), null(), integer(least), decimal(least))
	prints(t, api.Ast{Kind: api.AInsert, Name: "t", Kids: []api.Ast{row, node(api.ARow, integer(0))}}, "INSERT INTO t VALUES (1, -1, 1.5000, -0.0001, 'it''s -- ', x'0aff', TRUE, FALSE, NULL, -9223372036854775808, -922337203685477.5808), (0)")
	prints(t, api.Ast{Kind: api.ADelete, Name: "t"}, "DELETE FROM t")
	prints(t, api.Ast{Kind: api.ADelete, Name: "t", Kids: []api.Ast{op(api.OpEq, column("a"), integer(1))}}, "DELETE FROM t WHERE a = 1")
	prints(t, api.Ast{Kind: api.ASubscribe, Name: "v"}, "SUBSCRIBE v")
}

// P5.3: a SELECT with all that it may have, and sources.
func TestPrintSelects(t *testing.T) {
	q := query(item(column("a")), node(api.AStar), item(star("count")))
	q.Kids[0].Kids[2].Name = "n"
	prints(t, q, "SELECT a, *, count(*) AS n")
	q.Flag = true
	prints(t, q, "SELECT DISTINCT a, *, count(*) AS n")
	x := column("x")
	sources := []api.Ast{table("t", ""), table("t", "u"), sub(false, one(1), "v"), sub(true, top(2, one(1)), "w"), join(2, join(1, table("a", "b"), sub(true, one(2), "c"), x), table("d", ""), op(api.OpAnd, x, x))}
	q = with(with(with(with(q, api.AFrom, sources...), api.AWhere, op(api.OpOr, x, x)), api.AGroup, of("t", "a"), x), api.AHaving, isNull(false, x))
	want := "SELECT DISTINCT a, *, count(*) AS n FROM t, t AS u, (SELECT 1) AS v, LATERAL (SELECT 1 LIMIT 2) AS w, a AS b JOIN LATERAL (SELECT 2) AS c ON x LEFT JOIN d ON x AND x WHERE x OR x GROUP BY t.a, x HAVING x IS NULL"
	prints(t, q, want)
	prints(t, top(7, q, key("a", false), key("b", true)), want+" ORDER BY a, b DESC LIMIT 7")
	prints(t, top(api.MaxLimit, one(1)), "SELECT 1 LIMIT 1000000")
	prints(t, top(0, one(1), key("a", false)), "SELECT 1 ORDER BY a LIMIT 0")
	for _, part := range []struct {
		kind int
		want string
	}{{api.AFrom, "SELECT 1 FROM t"}, {api.AWhere, "SELECT 1 WHERE x"}, {api.AGroup, "SELECT 1 GROUP BY x"}, {api.AHaving, "SELECT 1 HAVING x"}} {
		kid := x
		if part.kind == api.AFrom {
			kid = table("t", "")
		}
		prints(t, with(one(1), part.kind, kid), part.want)
	}
}

// P5.3: which queries of a set or a top stand between parentheses.
func TestPrintSets(t *testing.T) {
	type sample struct {
		a    api.Ast
		s    string
		kind int // 0 a SELECT, 1 to 3 a set, 4 a top
	}
	words := []string{"", "UNION", "EXCEPT", "INTERSECT"}
	l := []sample{{one(1), "SELECT 1", 0}, {top(2, one(1)), "SELECT 1 LIMIT 2", 4}, {top(2, one(1), key("a", false)), "SELECT 1 ORDER BY a LIMIT 2", 4}}
	for num := 1; num <= 3; num++ {
		l = append(l, sample{set(num, false, one(1), one(2)), "SELECT 1 " + words[num] + " SELECT 2", num}, sample{set(num, true, one(1), one(2)), "SELECT 1 " + words[num] + " ALL SELECT 2", num})
	}
	put := func(s string, there bool) string {
		if there {
			return "(" + s + ")"
		}
		return s
	}
	for _, x := range l {
		prints(t, x.a, x.s)
		prints(t, top(3, x.a), put(x.s, x.kind == 4)+" LIMIT 3")
		for num := 1; num <= 3; num++ {
			for _, y := range l {
				want := put(x.s, x.kind == 4 || num == 3 && (x.kind == 1 || x.kind == 2)) + " " + words[num] + " " + put(y.s, y.kind != 0)
				prints(t, set(num, false, x.a, y.a), want)
				prints(t, with(query(node(api.AStar)), api.AFrom, sub(false, set(num, false, x.a, y.a), "z")), "SELECT * FROM ("+want+") AS z")
			}
		}
	}
}

// P5.3: which operands stand between parentheses, and that nothing else does.
func TestPrintOperands(t *testing.T) {
	a, b := column("a"), column("b")
	for _, x := range []struct {
		a   api.Ast
		s   string
		put bool
	}{
		{integer(1), "1", false}, {integer(-1), "-1", false}, {integer(least), "-9223372036854775808", false}, {decimal(-5000), "-0.5000", false}, {text("a"), "'a'", false}, {octets("a"), "x'61'", false}, {null(), "NULL", false}, {truth(1), "TRUE", false}, {a, "a", false}, {of("a", "b"), "a.b", false}, {call("f"), "f()", false}, {star("f"), "f(*)", false}, {call("f", a, op(api.OpOr, a, b)), "f(a, a OR b)", false}, {exists(one(1)), "EXISTS (SELECT 1)", false}, {scalar(one(1)), "(SELECT 1)", false}, {cases(a, b), "CASE WHEN a THEN b END", false}, {cases(a, b, a, a, b), "CASE WHEN a THEN b WHEN a THEN a ELSE b END", false},
		{op(api.OpNeg, a), "-(a)", true}, {op(api.OpNeg, integer(1)), "-(1)", true}, {op(api.OpNeg, scalar(one(1))), "-((SELECT 1))", true}, {op(api.OpNeg, op(api.OpAdd, a, b)), "-(a + b)", true}, {op(api.OpNeg, op(api.OpNeg, a)), "-(-(a))", true}, {op(api.OpNot, a), "NOT a", true}, {op(api.OpNot, op(api.OpNot, a)), "NOT (NOT a)", true}, {op(api.OpAdd, a, b), "a + b", true}, {op(api.OpOr, a, b), "a OR b", true}, {op(api.OpEq, a, b), "a = b", true}, {in(false, a, one(1)), "a IN (SELECT 1)", true}, {in(true, a, top(1, top(2, one(1)))), "a NOT IN ((SELECT 1 LIMIT 2) LIMIT 1)", true}, {isNull(false, a), "a IS NULL", true}, {isNull(true, a), "a IS NOT NULL", true},
	} {
		s := x.s
		if x.put {
			s = "(" + s + ")"
		}
		for i, sign := range strings.Fields("+ - * / = <> < <= > >= AND OR") {
			prints(t, asks(op(api.OpAdd+i, x.a, b)), "SELECT "+s+" "+sign+" b")
			prints(t, asks(op(api.OpAdd+i, a, x.a)), "SELECT a "+sign+" "+s)
		}
		prints(t, asks(op(api.OpNot, x.a)), "SELECT NOT "+s)
		prints(t, asks(op(api.OpNeg, x.a)), "SELECT -("+x.s+")")
		prints(t, asks(isNull(false, x.a)), "SELECT "+s+" IS NULL")
		prints(t, asks(isNull(true, x.a)), "SELECT "+s+" IS NOT NULL")
		prints(t, asks(in(false, x.a, one(1))), "SELECT "+s+" IN (SELECT 1)")
		prints(t, asks(in(true, x.a, one(1))), "SELECT "+s+" NOT IN (SELECT 1)")
		prints(t, asks(call("f", x.a, x.a)), "SELECT f("+x.s+", "+x.s+")")
		prints(t, asks(cases(x.a, x.a, x.a)), "SELECT CASE WHEN "+x.s+" THEN "+x.s+" ELSE "+x.s+" END")
		prints(t, with(with(asks(x.a), api.AWhere, x.a), api.AHaving, x.a), "SELECT "+x.s+" WHERE "+x.s+" HAVING "+x.s)
		prints(t, with(asks(x.a), api.AFrom, join(1, table("t", ""), table("u", ""), x.a)), "SELECT "+x.s+" FROM t JOIN u ON "+x.s)
	}
}

// insertion is a statement of these values, and its text.
func insertion(values ...api.Ast) api.Ast {
	return api.Ast{Kind: api.AInsert, Name: "t", Kids: []api.Ast{node(api.ARow, values...)}}
}

// P5.3: ErrLong of more than MaxSql bytes.
func TestPrintBytes(t *testing.T) {
	long := text(strings.Repeat("ß", api.MaxText/2))
	for _, x := range []struct {
		last string
		want api.Errno
	}{{strings.Repeat("a", 963), api.OK}, {strings.Repeat("a", 964), api.ErrLong}, {strings.Repeat("ß", 481), api.OK}, {strings.Repeat("ß", 482), api.ErrLong}, {strings.Repeat("'", 481), api.OK}, {strings.Repeat("'", 482), api.ErrLong}} {
		a := insertion(long, long, long, text(x.last))
		s, bad := parse.Print(a)
		if bad != x.want || (bad != api.OK) != (s == "") || len(s) > api.MaxSql || bad == api.OK && len(s) < api.MaxSql-1 {
			t.Errorf("%d bytes, error %d; want %d", len(s), bad, x.want)
		}
		if bad == api.OK {
			reads(t, s, a)
		}
		if bad := parse.Right(a); bad != api.OK {
			t.Errorf("error %d of the tree", bad)
		}
	}
	far := make([]api.Ast, 900)
	for i := range far {
		far[i] = long
	}
	if s, bad := parse.Print(insertion(far...)); s != "" || bad != api.ErrLong {
		t.Errorf("%d bytes, error %d", len(s), bad)
	}
}

// P5.3: ErrLong of more than MaxTokens tokens: a number below 0 has two.
func TestPrintTokens(t *testing.T) {
	l := make([]api.Ast, 497)
	for i := range l {
		l[i] = integer(int64(i))
	}
	for _, x := range []struct {
		below  int
		tokens int
		want   api.Errno
	}{{0, 999, api.OK}, {1, 1000, api.OK}, {2, 0, api.ErrLong}, {400, 0, api.ErrLong}} {
		for i := range x.below {
			l[i+1] = integer(-7)
		}
		s, bad := parse.Print(insertion(l...))
		tokens, _, _ := lex.Lex(s)
		if bad != x.want || len(tokens)-1 != x.tokens {
			t.Errorf("%d numbers below 0: %d tokens, error %d; want %d, %d", x.below, len(tokens)-1, bad, x.tokens, x.want)
		}
	}
	if s, bad := parse.Print(insertion(append(l[:1:1], l[401:]...)...)); bad != api.OK || s == "" {
		t.Errorf("fewer: error %d", bad)
	}
}

// spaced puts a text's tokens together as the promise says: a blank between, but none ahead of some, none behind some, none between a call's name and its parenthesis, and none behind a - with a parenthesis or a number behind it that belongs to it.
func spaced(s string) string {
	tokens, _, _ := lex.Lex(s)
	var l strings.Builder
	ends := func(i int) int {
		if i+1 < len(tokens) {
			return tokens[i+1].At
		}
		return len(s)
	}
	for i, token := range tokens[:len(tokens)-1] {
		if i > 0 && !tight(tokens, i) {
			l.WriteByte(' ')
		}
		l.WriteString(strings.TrimRight(s[token.At:ends(i)], " "))
	}
	return l.String()
}

// tight tells whether no blank stands ahead of the token number i.
func tight(tokens []api.Token, i int) bool {
	now, ahead := tokens[i].S, tokens[i-1]
	switch {
	case now == "," || now == ")" || now == "." || ahead.S == "(" || ahead.S == ".":
		return true
	case ahead.S == "-":
		return negated(tokens[:i])
	case now != "(" || ahead.Kind != api.TName:
		return false
	}
	// A name with a parenthesis behind it is no call's in these three.
	return i < 2 || tokens[i-2].S != "TABLE" && (tokens[i-2].S != "ON" || tokens[0].S != "CREATE" || tokens[1].S != "INDEX")
}
