package parse_test

import (
	"strings"
	"testing"

	"freshet/api"
	"freshet/parse"
)

// P5.1: lex.Lex's error, wherever the tokens ahead of it could not stand.
func TestTokenErrors(t *testing.T) {
	refuses(t, "SELECT SELECT 1a", api.ErrDigit, 14)
	refuses(t, ") 'a", api.ErrOpen, 2)
	refuses(t, "SELECT a ß", api.ErrRune, 9)
	refuses(t, "x"+strings.Repeat("a", api.MaxName), api.ErrLong, 0)
	refuses(t, strings.Repeat(")", api.MaxSql+1), api.ErrLong, 0)
	refuses(t, ")"+strings.Repeat(" a", api.MaxTokens), api.ErrLong, 2*api.MaxTokens)
	refuses(t, strings.Repeat("(", api.MaxDepth+1)+"9223372036854775809", api.ErrDigit, api.MaxDepth+1)
}

// P5.1: statements, and the first token that can't stand there.
func TestStrayTokens(t *testing.T) {
	for _, x := range []struct{ ahead, behind string }{
		{"", ""}, {" -- SELECT", ""}, {"", ";"}, {"", "a"}, {"", "1"}, {"", "'a'"}, {"", "VALUES (1)"}, {"", "FROM t"}, {"", ") SELECT 1"}, {"", "*"},
		{"SELECT 1;", ";"}, {"SELECT 1; ", "SELECT 1"}, {"SELECT 1 ", "1"}, {"SELECT 1", ")"}, {"SELECT 1 ", "a"},
		{"CREATE", ""}, {"CREATE ", "t"}, {"CREATE ", "SELECT"}, {"CREATE TABLE", ""}, {"CREATE TABLE ", "table (a INT)"}, {"CREATE TABLE ", "'t'"}, {"CREATE TABLE t", ""}, {"CREATE TABLE t ", "a INT"}, {"CREATE TABLE t(", ""},
		{"CREATE TABLE t (a", ""}, {"CREATE TABLE t (a ", ")"}, {"CREATE TABLE t (a ", "b"}, {"CREATE TABLE t (", "INT"}, {"CREATE TABLE t (a INT ", "NULL)"}, {"CREATE TABLE t (a INT NOT", ""}, {"CREATE TABLE t (a INT NOT ", ", b INT)"}, {"CREATE TABLE t (a INT,", ""}, {"CREATE TABLE t (a INT,", ")"}, {"CREATE TABLE t (a INT ", "INT)"}, {"CREATE TABLE t (a INT", ""}, {"CREATE TABLE t (a INT)", ")"}, {"CREATE TABLE t (a INT) ", "AS SELECT 1"}, {"CREATE TABLE t", ".u"}, {"CREATE TABLE t (a", ".b INT)"},
		{"CREATE VIEW v ", "SELECT 1"}, {"CREATE VIEW v AS", ""}, {"CREATE VIEW v AS ", "v"}, {"CREATE VIEW v ", "(a) AS SELECT 1"}, {"CREATE VIEW v AS ", "SUBSCRIBE v"},
		{"CREATE INDEX ", "ON t (a)"}, {"CREATE INDEX i", ""}, {"CREATE INDEX i ", "t (a)"}, {"CREATE INDEX i ON t ", "a"}, {"CREATE INDEX i ON t (", ")"}, {"CREATE INDEX i ON t (a ", "DESC)"}, {"CREATE INDEX i ON t (a,", ")"}, {"CREATE INDEX i ON t (a", ".b)"}, {"CREATE INDEX i ON t (", "1)"},
		{"DROP", ""}, {"DROP ", "t"}, {"DROP TABLE", ""}, {"DROP TABLE ", "TABLE"}, {"DROP VIEW v", ", w"}, {"DROP INDEX i ", "ON t"},
		{"SUBSCRIBE", ""}, {"SUBSCRIBE ", "SELECT 1"}, {"SUBSCRIBE ", "(SELECT 1)"}, {"SUBSCRIBE v ", "v"}, {"SUBSCRIBE v", ".w"},
		{"DELETE ", "t"}, {"DELETE FROM", ""}, {"DELETE FROM ", "(SELECT 1)"}, {"DELETE FROM t ", "a"}, {"DELETE FROM t WHERE", ""}, {"DELETE FROM t WHERE a ", "WHERE b"}, {"DELETE FROM t WHERE a", ", b"}, {"DELETE FROM t ", "HAVING a"}, {"DELETE FROM t ", "LIMIT 1"},
	} {
		stray(t, x.ahead, x.behind)
	}
}

// P5.1: what is inserted are literals alone.
func TestStrayValues(t *testing.T) {
	for _, x := range []struct{ ahead, behind string }{
		{"INSERT", ""}, {"INSERT ", "t"}, {"INSERT INTO ", "VALUES"}, {"INSERT INTO t ", "(a) VALUES (1)"}, {"INSERT INTO t ", "SELECT 1"}, {"INSERT INTO t VALUES", ""}, {"INSERT INTO t VALUES ", "1"}, {"INSERT INTO t VALUES (", ")"}, {"INSERT INTO t VALUES (1", ""}, {"INSERT INTO t VALUES (1,", ")"}, {"INSERT INTO t VALUES (1 ", "2)"}, {"INSERT INTO t VALUES (1 ", "+ 2)"}, {"INSERT INTO t VALUES (1 ", "- 2)"},
		{"INSERT INTO t VALUES (1),", ""}, {"INSERT INTO t VALUES (1) ", "(2)"}, {"INSERT INTO t VALUES (", "a)"}, {"INSERT INTO t VALUES (", "(1))"}, {"INSERT INTO t VALUES (", "NOT TRUE)"}, {"INSERT INTO t VALUES (", "f(1))"}, {"INSERT INTO t VALUES (", "CASE)"}, {"INSERT INTO t VALUES (", "+ 1)"},
		{"INSERT INTO t VALUES (-", ""}, {"INSERT INTO t VALUES (-", ")"}, {"INSERT INTO t VALUES (- ", "- 1)"}, {"INSERT INTO t VALUES (-", "'a')"}, {"INSERT INTO t VALUES (-", "x'00')"}, {"INSERT INTO t VALUES (- ", "NULL)"}, {"INSERT INTO t VALUES (-", "TRUE)"}, {"INSERT INTO t VALUES (-", "a)"}, {"INSERT INTO t VALUES (1", "; )"}, {"INSERT INTO t VALUES (1) ", "WHERE TRUE"},
	} {
		stray(t, x.ahead, x.behind)
	}
}

// P5.1: queries, and the first token that can't stand there.
func TestStrayInQueries(t *testing.T) {
	for _, x := range []struct{ ahead, behind string }{
		{"SELECT ", "FROM t"}, {"SELECT DISTINCT", ""}, {"SELECT DISTINCT ", "DISTINCT a"}, {"SELECT ", "ALL a"}, {"SELECT a,", ""}, {"SELECT a, ", "FROM t"}, {"SELECT * ", "AS x"}, {"SELECT * ", "a"}, {"SELECT a AS", ""}, {"SELECT a AS ", "1"}, {"SELECT a AS ", "*"}, {"SELECT a AS b", ".c"}, {"SELECT t.", "*"}, {"SELECT a ", "b"}, {"SELECT ", ", a"}, {"SELECT ", ";"},
		{"SELECT a FROM", ""}, {"SELECT a FROM ", "WHERE b"}, {"SELECT a FROM ", "1"}, {"SELECT a FROM t,", ""}, {"SELECT a FROM t AS", ""}, {"SELECT a FROM t AS ", "JOIN"}, {"SELECT a FROM t b ", "c"}, {"SELECT a FROM t", ".b"}, {"SELECT a FROM t", "(1)"}, {"SELECT a FROM f", "(1)"},
		{"SELECT a FROM (SELECT 1)", ""}, {"SELECT a FROM (SELECT 1)", ", b"}, {"SELECT a FROM (SELECT 1) ", "JOIN b ON c"}, {"SELECT a FROM (SELECT 1) AS", ""}, {"SELECT a FROM (SELECT 1) ", "1"}, {"SELECT a FROM (", "t)"}, {"SELECT a FROM (", "a JOIN b ON c)"}, {"SELECT a FROM LATERAL", ""}, {"SELECT a FROM LATERAL ", "t"}, {"SELECT a FROM (SELECT 1 ", "x"}, {"SELECT a FROM LATERAL ", "LATERAL"},
		{"SELECT a FROM t JOIN", ""}, {"SELECT a FROM t JOIN ", "ON a"}, {"SELECT a FROM t JOIN u", ""}, {"SELECT a FROM t JOIN u ", "WHERE b"}, {"SELECT a FROM t JOIN u", ", b"}, {"SELECT a FROM t JOIN u ON", ""}, {"SELECT a FROM t JOIN u ", "JOIN v ON a"}, {"SELECT a FROM t INNER", ""}, {"SELECT a FROM t INNER ", "LEFT"}, {"SELECT a FROM t LEFT", ""}, {"SELECT a FROM t LEFT ", "u"}, {"SELECT a FROM t LEFT ", "INNER JOIN"}, {"SELECT a FROM t ", "ON a"}, {"SELECT a FROM t JOIN u ON a ", "ON b"}, {"SELECT a FROM t JOIN ", "JOIN"}, {"SELECT a ", "JOIN"},
		{"SELECT a WHERE", ""}, {"SELECT a WHERE ", "*"}, {"SELECT a WHERE b ", "FROM t"}, {"SELECT a WHERE b ", "WHERE c"}, {"SELECT a WHERE b ", "AS c"}, {"SELECT a WHERE b", ", c"},
		{"SELECT a GROUP", ""}, {"SELECT a GROUP ", "a"}, {"SELECT a GROUP BY", ""}, {"SELECT a GROUP BY ", "1"}, {"SELECT a GROUP BY ", "(a)"}, {"SELECT a GROUP BY a ", "+ b"}, {"SELECT a GROUP BY a.", ""}, {"SELECT a GROUP BY a.b", ".c"}, {"SELECT a GROUP BY a", "(b)"}, {"SELECT a GROUP BY a,", ""}, {"SELECT a GROUP BY a ", "WHERE b"}, {"SELECT a GROUP BY a ", "DESC"}, {"SELECT a GROUP BY ", "HAVING b"},
		{"SELECT a HAVING", ""}, {"SELECT a HAVING b ", "GROUP BY c"}, {"SELECT a HAVING b ", "HAVING c"}, {"SELECT a HAVING b ", "WHERE c"},
	} {
		stray(t, x.ahead, x.behind)
	}
}

// P5.1: sets and tops, and the first token that can't stand there.
func TestStrayInSets(t *testing.T) {
	for _, x := range []struct{ ahead, behind string }{
		{"SELECT a UNION", ""}, {"SELECT a UNION ", "UNION"}, {"SELECT a UNION ALL", ""}, {"SELECT a UNION ALL ", "ALL"}, {"SELECT a UNION ", "DISTINCT SELECT b"}, {"SELECT a INTERSECT ", "t"}, {"SELECT a EXCEPT ", "EXISTS"}, {"SELECT a UNION ", "a"}, {"SELECT a UNION (", "b)"}, {"", "UNION SELECT a"},
		{"(", ""}, {"(", ")"}, {"(", "a"}, {"(SELECT a", ""}, {"(SELECT a)", ")"}, {"(SELECT a) ", "b"}, {"(SELECT a) ", "WHERE b"}, {"(SELECT a) ", "AS b"}, {"(SELECT a", ";)"}, {"(SELECT a) ", "+ 1"}, {"(SELECT a) ", "(SELECT b)"}, {"(SELECT a LIMIT 1 ", "UNION SELECT b"},
		{"SELECT a ORDER", ""}, {"SELECT a ORDER ", "a"}, {"SELECT a ORDER BY", ""}, {"SELECT a ORDER BY ", "1"}, {"SELECT a ORDER BY ", "LIMIT 1"}, {"SELECT a ORDER BY a", ""}, {"SELECT a ORDER BY a", ";"}, {"SELECT a ORDER BY a", ".b LIMIT 1"}, {"SELECT a ORDER BY a ASC ", "DESC"}, {"SELECT a ORDER BY a DESC ", "ASC"}, {"SELECT a ORDER BY a,", ""}, {"SELECT a ORDER BY a ", "b"}, {"SELECT a ORDER BY a ", "+ 1"}, {"SELECT a ORDER BY a ", "UNION SELECT b"}, {"SELECT a ORDER BY ", "(a)"},
		{"SELECT a LIMIT", ""}, {"SELECT a LIMIT ", "a"}, {"SELECT a LIMIT ", "- 1"}, {"SELECT a LIMIT ", "1.0"}, {"SELECT a LIMIT ", "1000001.0"}, {"SELECT a LIMIT ", "922337203685477.5808"}, {"SELECT a LIMIT ", "'1'"}, {"SELECT a LIMIT ", "NULL"}, {"SELECT a LIMIT ", "(1)"}, {"SELECT a LIMIT 1 ", "+ 1"}, {"SELECT a LIMIT 1 ", "ORDER BY a"}, {"SELECT a LIMIT 1 ", "LIMIT 1"}, {"SELECT a LIMIT 1 ", "UNION SELECT b"}, {"SELECT a LIMIT 1 ", "2"}, {"SELECT a LIMIT 1", ", 2"},
	} {
		stray(t, x.ahead, x.behind)
	}
}

// P5.1: expressions, and the first token that can't stand there.
func TestStrayInExpressions(t *testing.T) {
	for _, x := range []struct{ ahead, behind string }{
		{"a +", ""}, {"a + ", "* b"}, {"", "+ a"}, {"", "= a"}, {"a ", "a"}, {"a ", "1"}, {"1 ", "'a'"}, {"a = ", "= b"}, {"a = b ", "= c"}, {"a < b ", "<= c"}, {"a = b ", "IS NULL"}, {"a = b ", "IN (SELECT 1)"}, {"a = b ", "NOT IN (SELECT 1)"}, {"a = ", "NOT b"}, {"a + ", "NOT b"}, {"-", ""}, {"- ", "NOT a"}, {"- ", ")"}, {"a * ", "NOT b"}, {"a AND", ""}, {"a AND ", "OR b"}, {"NOT", ""}, {"NOT ", "AND a"}, {"a OR", ""},
		{"a IS", ""}, {"a IS ", "TRUE"}, {"a IS NOT", ""}, {"a IS NOT ", "NOT NULL"}, {"a IS NOT ", "TRUE"}, {"a IS NULL ", "IS NULL"}, {"a IS NULL ", "= b"}, {"a IS NULL ", "+ 1"}, {"a IS NULL ", "IN (SELECT 1)"}, {"a IS NULL ", "NOT IN (SELECT 1)"},
		{"a IN", ""}, {"a IN ", "b"}, {"a IN (", "1)"}, {"a IN (", ")"}, {"a IN (", "b)"}, {"a IN ((", "1))"}, {"a IN (SELECT 1", ""}, {"a IN (SELECT 1) ", "IN (SELECT 2)"}, {"a IN (SELECT 1) ", "= b"}, {"a IN (SELECT 1) ", "IS NULL"}, {"a IN ((SELECT 1)", ""}, {"a IN ((SELECT 1) ", "+ 1)"}, {"a NOT", ""}, {"a NOT ", "NULL"}, {"a NOT ", "(SELECT 1)"}, {"a NOT ", "EXISTS"}, {"a NOT ", "NOT IN"},
		{"EXISTS", ""}, {"EXISTS ", "SELECT 1"}, {"EXISTS (", "a)"}, {"EXISTS (", ")"}, {"EXISTS ((", "a))"}, {"EXISTS (SELECT 1) ", "EXISTS"}, {"a ", "EXISTS (SELECT 1)"},
		{"CASE", ""}, {"CASE ", "a WHEN b THEN c END"}, {"CASE ", "END"}, {"CASE ", "ELSE a END"}, {"CASE WHEN", ""}, {"CASE WHEN a ", "END"}, {"CASE WHEN a", ""}, {"CASE WHEN a ", "WHEN b"}, {"CASE WHEN a THEN", ""}, {"CASE WHEN a THEN ", "WHEN b"}, {"CASE WHEN a THEN b", ""}, {"CASE WHEN a THEN b ", "THEN c"}, {"CASE WHEN a THEN b ELSE", ""}, {"CASE WHEN a THEN b ELSE ", "END"}, {"CASE WHEN a THEN b ELSE c ", "ELSE d END"}, {"CASE WHEN a THEN b ELSE c ", "WHEN d THEN e END"}, {"CASE WHEN a THEN b END ", "END"}, {"", "END"}, {"", "WHEN"}, {"CASE WHEN a THEN b", ") END"},
		{"(", ""}, {"(", ")"}, {"(a", ""}, {"(a", ", b)"}, {"((", ")"}, {"(a) ", "b"}, {"(SELECT 1", ""}, {"((SELECT 1) ", "UNION SELECT 2)"}, {"((SELECT 1) ", "LIMIT 1)"}, {"((SELECT 1) ", "ORDER BY a LIMIT 1)"}, {"(((SELECT 1)) ", "EXCEPT SELECT 2)"}, {"(SELECT 1) ", "a"}, {"", ")"}, {"", "SELECT 1"}, {"a + ", "SELECT 1"}, {"(a ", "UNION SELECT 1)"}, {"(a ", "AS b)"}, {"(", "*)"},
		{"f(", ""}, {"f(", ", a)"}, {"f(a", ""}, {"f(a,", ")"}, {"f(a ", "b)"}, {"f(*", ""}, {"f(*", ", a)"}, {"f(* ", "* a)"}, {"f(a, ", "*)"}, {"f(", "SELECT 1)"}, {"f(", "DISTINCT a)"}, {"f(a ", "AS b)"}, {"f()", "(a)"}, {"f()", ".a"}, {"f(a) ", "b"}, {"", "EXCEPT(a)"}, {"1", "(a)"},
		{"a.", ""}, {"a.", "1"}, {"a.", "*"}, {"a.", "SELECT"}, {"a.b", ".c"}, {"a.b", "(c)"}, {"a.", "(b)"}, {"1", ".a"}, {"'a'", ".b"}, {"", ".a"}, {"TRUE", ".a"}, {"TRUE", "(a)"}, {"NULL ", "NULL"},
	} {
		stray(t, "DELETE FROM t WHERE "+x.ahead, x.behind)
		stray(t, "SELECT a WHERE "+x.ahead, x.behind)
	}
}

// P5.1: ErrDigit of an amount of 2^63, unless the - of neg, or of literal, stands directly ahead.
func TestGreatNumbers(t *testing.T) {
	for _, n := range []string{"9223372036854775808", "922337203685477.5808", "0009223372036854775808"} {
		for _, ahead := range []string{"", "a - ", "1 - ", "-1 - ", "'a' - ", "(a) - ", "f() - ", "a.b - ", "TRUE - ", "NULL -", "CASE WHEN a THEN b END - ", "a + ", "- (", "-(-(", "(", "f(", "a = ", "NOT ", "CASE WHEN ", "a - -b - ", "a - -1 - "} {
			for _, s := range []string{"SELECT ", "SELECT a WHERE ", "DELETE FROM t WHERE ", "SELECT a FROM t JOIN u ON "} {
				refuses(t, s+ahead+n, api.ErrDigit, len(s+ahead))
				refuses(t, s+ahead+n+" )", api.ErrDigit, len(s+ahead))
			}
		}
		for _, ahead := range []string{"-", "- ", "--\n - ", "a - -", "a - - - ", "(-", "a * -", "a = -", "f(-", "NOT -"} {
			stray(t, "SELECT "+ahead+n+" ", "a")
		}
		stray(t, "INSERT INTO t VALUES (-"+n+", - "+n+" ", "- 1)")
		refuses(t, "INSERT INTO t VALUES ("+n+")", api.ErrDigit, 22)
		refuses(t, "INSERT INTO t VALUES (-1, "+n, api.ErrDigit, 26)
		// One that could not stand there, whatever its amount.
		refuses(t, "SELECT a "+n, api.ErrToken, 9)
		refuses(t, "SELECT a FROM "+n, api.ErrToken, 14)
		refuses(t, "SELECT a AS "+n, api.ErrToken, 12)
		refuses(t, "INSERT INTO t VALUES (- -"+n+")", api.ErrToken, 24)
		refuses(t, "SELECT ) "+n, api.ErrToken, 7)
		refuses(t, "SELECT "+n+" "+n, api.ErrDigit, 7)
	}
	reads(t, "SELECT 9223372036854775807", one(1<<63-1))
}

// P5.1: ErrDigit of an int behind LIMIT above MaxLimit.
func TestGreatLimits(t *testing.T) {
	for _, n := range []string{"1000001", "01000001", "9223372036854775807", "9223372036854775808", "4294967296", "18446744073709551"} {
		refuses(t, "SELECT 1 LIMIT "+n, api.ErrDigit, 15)
		refuses(t, "SELECT (SELECT 1 ORDER BY a LIMIT "+n+") 1", api.ErrDigit, 34)
	}
	refuses(t, "SELECT 1 LIMIT", api.ErrEnd, 14)
	refuses(t, "(SELECT 1 LIMIT 1000000) LIMIT 1000001 a", api.ErrDigit, 31)
}

// opened asks of a text with MaxDepth parentheses and CASEs that are open, the last ones of which a piece opens that stands there n times, that the parenthesis or CASE that comes last in more is ErrDeep at its place, but can stand there with a piece less.
func opened(t *testing.T, ahead, piece string, n int, more ...string) {
	t.Helper()
	s := ahead + strings.Repeat(piece, n)
	for _, last := range more {
		place := len(s) + max(strings.LastIndex(last, "("), strings.LastIndex(last, "CASE"))
		refuses(t, s+last, api.ErrDeep, place)
		refuses(t, s+last+" 9223372036854775808 )", api.ErrDeep, place)
		stray(t, strings.TrimSuffix(s, piece)+last, "")
	}
}

// P5.1: ErrDeep of a parenthesis or CASE, if MaxDepth of these are open there.
func TestManyOpen(t *testing.T) {
	opened(t, "", "(", 30, "(")
	opened(t, "SELECT ", "(", 30, "(", "CASE", "f(", "EXISTS (", "a IN (", "-(", "NOT (", "a + CASE")
	opened(t, "SELECT f(", "(", 29, "(", "CASE")
	opened(t, "SELECT f(), g(*), EXISTS (SELECT 1), CASE WHEN (a) THEN (b) END + ", "(", 30, "(", "CASE")
	opened(t, "CREATE VIEW v AS ", "(", 30, "(")
	opened(t, "SELECT a FROM ", "(SELECT a FROM ", 30, "(")
	opened(t, "SELECT a IN (SELECT ", "CASE WHEN ", 29, "(", "CASE")
	opened(t, "SELECT EXISTS (SELECT a UNION (SELECT ", "CASE WHEN a THEN b ELSE f(", 14, "(", "CASE")
	opened(t, "SELECT ", "f(", 30, "(", "CASE")
	deep := "SELECT " + strings.Repeat("(", 30)
	// What could not stand there is told as that.
	refuses(t, deep+"1 (", api.ErrToken, len(deep)+2)
	refuses(t, deep+")(", api.ErrToken, len(deep))
	refuses(t, deep+"a CASE", api.ErrToken, len(deep)+2)
	refuses(t, deep+"a IN CASE", api.ErrToken, len(deep)+5)
	refuses(t, strings.Repeat("(", 30)+"CASE", api.ErrToken, 30)
	reads(t, deep+"1"+strings.Repeat(")", 30), one(1))
	reads(t, deep+"1"+strings.Repeat(")", 29)+"+(2))", asks(op(api.OpAdd, integer(1), integer(2))))
	reads(t, strings.Repeat("(", 30)+"SELECT 1"+strings.Repeat(")", 30), one(1))
}

// P5.1: ErrDeep at 0 of a tree with more than MaxDepth nodes within one another, if all is read.
func TestDeepTrees(t *testing.T) {
	nots := func(n int) api.Ast {
		a := column("a")
		for range n {
			a = op(api.OpNot, a)
		}
		return a
	}
	reads(t, "SELECT "+strings.Repeat("NOT ", 26)+"a", asks(nots(26)))
	refuses(t, "SELECT "+strings.Repeat("NOT ", 27)+"a", api.ErrDeep, 0)
	reads(t, "DELETE FROM t WHERE "+strings.Repeat("NOT ", 28)+"a", api.Ast{Kind: api.ADelete, Name: "t", Kids: []api.Ast{nots(28)}})
	refuses(t, " DELETE FROM t WHERE "+strings.Repeat("NOT ", 29)+"a", api.ErrDeep, 0)
	refuses(t, "SELECT "+strings.Repeat("NOT ", 900)+"a", api.ErrDeep, 0)
	refuses(t, "SELECT "+strings.Repeat("NOT ", 900)+")", api.ErrToken, 7+3600)
	refuses(t, "SELECT "+strings.Repeat("- ", 998)+"a", api.ErrDeep, 0)
	for _, sign := range []string{"+", "-", "*", "/", "AND", "OR"} {
		_, bad, at := parse.Parse("SELECT a" + strings.Repeat(" "+sign+" a", 26))
		if bad != api.OK {
			t.Errorf("26 %s: error %d at %d", sign, bad, at)
		}
		refuses(t, "SELECT a"+strings.Repeat(" "+sign+" a", 27), api.ErrDeep, 0)
		refuses(t, "SELECT a"+strings.Repeat(" "+sign+" a", 27)+" )", api.ErrToken, 8+27*(3+len(sign))+1)
	}
	refuses(t, "SELECT a"+strings.Repeat(" UNION SELECT a", 27), api.ErrDeep, 0)
	refuses(t, "SELECT a FROM a"+strings.Repeat(" JOIN a ON a", 28), api.ErrDeep, 0)
	reads(t, strings.Repeat("(", 26)+"SELECT 1"+strings.Repeat(" LIMIT 1)", 26), limits(26))
	refuses(t, strings.Repeat("(", 27)+"SELECT 1"+strings.Repeat(" LIMIT 1)", 27), api.ErrDeep, 0)
}

// limits are ATops within one another, with parentheses that are left out.
func limits(n int) api.Ast {
	q := one(1)
	for range n {
		q = top(1, q)
	}
	return q
}

// P5.1: ErrLong at 0 of a tree with more than MaxTokens nodes, if all is read, and it is not too deep.
func TestGreatTrees(t *testing.T) {
	const nine = ", (SELECT *)" // AItem, AScalar, ASelect, its five parts, AStar
	s := "SELECT a" + strings.Repeat(nine, 110)
	for _, x := range []struct {
		more string
		want api.Errno
	}{{"", api.OK}, {", a", api.OK}, {" WHERE a", api.OK}, {", a WHERE a", api.ErrLong}, {", a, a", api.ErrLong}, {nine, api.ErrLong}, {", a WHERE (" + strings.Repeat("NOT ", 30) + "a)", api.ErrDeep}} {
		a, bad, at := parse.Parse(s + x.more)
		if bad != x.want || at != 0 || (bad == api.OK) == same(a, api.Ast{}) {
			t.Errorf("%q: error %d at %d; want %d", x.more, bad, at, x.want)
		}
	}
	refuses(t, s+nine+" WHERE )", api.ErrToken, len(s+nine)+7)
}
