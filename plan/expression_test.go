package plan_test

import (
	"strings"
	"testing"

	"freshet/api"
)

// P6.7: values and columns.
func TestLeaves(t *testing.T) {
	for _, s := range []string{"1", "-1", "1.5000", "'a'", "x'00'", "TRUE", "FALSE"} {
		worth(t, "t", s, s)
		if e := checked(t, "SELECT "+s).Rel.Exprs[0]; e.Type != e.Lit.Kind || e.Null {
			t.Errorf("%q: %v", s, e)
		}
	}
	if e := checked(t, "SELECT NULL IS NULL").Rel.Exprs[0].Kids[0]; e.Kind != api.ELit || e.Type != api.Null || !e.Null {
		t.Errorf("NULL: %v", e)
	}
	worth(t, "t", "a", "0.0:INT")
	worth(t, "t", "t.b", "0.1:TEXT?")
	worth(t, "t AS x", "x.b", "0.1:TEXT?")
	worth(t, "t, u, w", "p", "0.3:BOOL")
	worth(t, "t, u", "u.a", "0.2:DEC?")
	worth(t, "u, t", "t.a", "0.1:INT")
	worth(t, "u AS t, t AS u", "u.a", "0.1:INT")
	refuses(t, api.ErrColumn, "SELECT c FROM t", "SELECT t FROM t", "SELECT a", "SELECT a FROM w", "SELECT x.a FROM t", "SELECT t.a FROM t AS x", "SELECT u.b FROM t, u", "SELECT (SELECT c FROM t) FROM u")
	refuses(t, api.ErrAmbiguous, "SELECT a FROM t, u", "SELECT b FROM t, t AS x", "SELECT a FROM t, u, w", "SELECT (SELECT a FROM t AS x, u) FROM w", "SELECT (SELECT b) FROM t, t AS x", "SELECT (SELECT a FROM w) FROM t, u")
}

// P6.7: the innermost scope that has a column is that of it.
func TestLevels(t *testing.T) {
	worth(t, "t", "(SELECT a FROM u)", "scalar:DEC?{map(0.0:DEC?)[a DEC?]{"+u_+"}}")
	worth(t, "t", "(SELECT b FROM u)", "scalar:TEXT?{map(1.1:TEXT?)[b TEXT?]{"+u_+"}}")
	worth(t, "t", "(SELECT t.a FROM u)", "scalar:INT?{map(1.0:INT)[a INT]{"+u_+"}}")
	worth(t, "t", "(SELECT t.a FROM u AS t)", "scalar:DEC?{map(0.0:DEC?)[a DEC?]{"+u_+"}}")
	worth(t, "t", "(SELECT t.b FROM u AS t)", "scalar:TEXT?{map(1.1:TEXT?)[b TEXT?]{"+u_+"}}")
	worth(t, "t", "(SELECT a)", "scalar:INT?{map(1.0:INT)[a INT]{one}}")
	worth(t, "t", "(SELECT (SELECT (SELECT b) FROM w) FROM u)", "scalar:TEXT?{map(scalar:TEXT?{map(scalar:TEXT?{map(3.1:TEXT?)[b TEXT?]{one}})[c1 TEXT?]{"+w_+"}})[c1 TEXT?]{"+u_+"}}")
	worth(t, "t, t AS x", "(SELECT b FROM t)", "scalar:TEXT?{map(0.1:TEXT?)[b TEXT?]{"+t_+"}}")
	worth(t, "t", "(SELECT 1 UNION SELECT a LIMIT 1)", "scalar:INT?{top 1{distinct{union[c1 INT]{map(1)[c1 INT]{one}, map(1.0:INT)[a INT]{one}}}}}")
	// A scope in which a column stands more than once is the one that counts, whatever stands outside of it.
	refuses(t, api.ErrAmbiguous, "SELECT (SELECT b FROM t, t AS y) FROM t AS x")
}

// P6.7: NOT, AND, OR.
func TestLogic(t *testing.T) {
	worth(t, "t", "NOT TRUE", "not:BOOL(TRUE)")
	worth(t, "w", "p AND NULL", "and:BOOL?(0.0:BOOL, NULL)")
	worth(t, "w", "p OR NOT p", "or:BOOL(0.0:BOOL, not:BOOL(0.0:BOOL))")
	worth(t, "t", "NULL OR NULL", "or:BOOL?(NULL, NULL)")
	worth(t, "t", "NOT coalesce(NULL)", "not:BOOL?(coalesce:NONE?(NULL))")
	refuses(t, api.ErrType, "SELECT NOT 1", "SELECT TRUE AND 1", "SELECT 'a' OR TRUE", "SELECT a AND c FROM t", "SELECT b OR f() FROM t", "SELECT NULL AND x'00'", "SELECT NOT a FROM u")
	refuses(t, api.ErrColumn, "SELECT TRUE AND c", "SELECT NULL OR c", "SELECT NOT c", "SELECT c AND 1")
}

// P6.7: comparisons.
func TestComparisons(t *testing.T) {
	for s, name := range map[string]string{"=": "=", "<>": "<>", "<": "<", "<=": "<=", ">": ">", ">=": ">="} {
		worth(t, "t", "a "+s+" 1", name+":BOOL(0.0:INT, 1)")
		worth(t, "t", "b "+s+" 'a'", name+":BOOL?(0.1:TEXT?, 'a')")
		worth(t, "w", "r "+s+" s", name+":BOOL?(0.2:INT?, 0.3:DEC)")
		worth(t, "w", "s "+s+" 1", name+":BOOL(0.3:DEC, 1)")
		worth(t, "w", "NULL "+s+" q", name+":BOOL?(NULL, 0.1:BYTES)")
		worth(t, "w", "p "+s+" NULL", name+":BOOL?(0.0:BOOL, NULL)")
		worth(t, "w", "NULL "+s+" NULL", name+":BOOL?(NULL, NULL)")
		refuses(t, api.ErrType, "SELECT 1 "+s+" 'a'", "SELECT TRUE "+s+" 1", "SELECT 'a' "+s+" x'00'", "SELECT a "+s+" b FROM t", "SELECT (a "+s+" b) AND c FROM t")
		refuses(t, api.ErrColumn, "SELECT a "+s+" c FROM t", "SELECT c "+s+" f()")
	}
}

// P6.7: arithmetic.
func TestArithmetic(t *testing.T) {
	for _, s := range strings.Fields("+ - * /") {
		worth(t, "t", "a "+s+" 1", s+":INT(0.0:INT, 1)")
		worth(t, "w", "r "+s+" s", s+":DEC?(0.2:INT?, 0.3:DEC)")
		worth(t, "w", "s "+s+" s", s+":DEC(0.3:DEC, 0.3:DEC)")
		worth(t, "w", "s "+s+" 1", s+":DEC(0.3:DEC, 1)")
		worth(t, "w", "NULL "+s+" r", s+":INT?(NULL, 0.2:INT?)")
		worth(t, "w", "1.5 "+s+" NULL", s+":DEC?(1.5000, NULL)")
		refuses(t, api.ErrType, "SELECT NULL "+s+" NULL", "SELECT 1 "+s+" 'a'", "SELECT b "+s+" 1 FROM t", "SELECT TRUE "+s+" 1", "SELECT 1 "+s+" TRUE", "SELECT b "+s+" b FROM t", "SELECT b "+s+" NULL FROM t", "SELECT NULL "+s+" p FROM w", "SELECT q "+s+" q FROM w", "SELECT p "+s+" s FROM w", "SELECT (1 "+s+" 'a') + c")
		refuses(t, api.ErrColumn, "SELECT 1 "+s+" c", "SELECT c "+s+" 'a'", "SELECT 'a' "+s+" c")
	}
	worth(t, "t", "-(a)", "neg:INT(0.0:INT)")
	worth(t, "u", "- - a", "neg:DEC?(neg:DEC?(0.0:DEC?))")
	refuses(t, api.ErrType, "SELECT -(NULL)", "SELECT -b FROM t", "SELECT -(TRUE)", "SELECT -q FROM w")
	refuses(t, api.ErrColumn, "SELECT -c")
}

// P6.7: IS NULL.
func TestIsNull(t *testing.T) {
	worth(t, "t", "a IS NULL", "isnull:BOOL(0.0:INT)")
	worth(t, "t", "b IS NOT NULL", "not:BOOL(isnull:BOOL(0.1:TEXT?))")
	worth(t, "t", "NULL IS NOT NULL", "not:BOOL(isnull:BOOL(NULL))")
	refuses(t, api.ErrColumn, "SELECT c IS NULL", "SELECT c IS NOT NULL")
}

// P6.7: CASE.
func TestCase(t *testing.T) {
	worth(t, "t", "CASE WHEN a = 1 THEN 2 END", "case:INT?(=:BOOL(0.0:INT, 1), 2)")
	worth(t, "t", "CASE WHEN a = 1 THEN 2 ELSE a END", "case:INT(=:BOOL(0.0:INT, 1), 2, 0.0:INT)")
	worth(t, "t", "CASE WHEN NULL THEN 'a' WHEN b = 'b' THEN b ELSE NULL END", "case:TEXT?(NULL, 'a', =:BOOL?(0.1:TEXT?, 'b'), 0.1:TEXT?, NULL)")
	worth(t, "t", "CASE WHEN b = 'b' THEN 1 ELSE 2 END", "case:INT(=:BOOL?(0.1:TEXT?, 'b'), 1, 2)")
	worth(t, "w", "CASE WHEN p THEN 1 WHEN p THEN s WHEN p THEN NULL ELSE r END", "case:DEC?(0.0:BOOL, dec:DEC(1), 0.0:BOOL, 0.3:DEC, 0.0:BOOL, NULL, dec:DEC?(0.2:INT?))")
	worth(t, "w", "CASE WHEN p THEN s ELSE 1 + 1 END", "case:DEC(0.0:BOOL, 0.3:DEC, dec:DEC(+:INT(1, 1)))")
	worth(t, "w", "CASE WHEN p THEN TRUE WHEN p THEN FALSE END", "case:BOOL?(0.0:BOOL, TRUE, 0.0:BOOL, FALSE)")
	worth(t, "w", "CASE WHEN p THEN NULL ELSE 1 END", "case:INT?(0.0:BOOL, NULL, 1)")
	worth(t, "t", "CASE WHEN TRUE THEN NULL END IS NULL", "isnull:BOOL(case:NONE?(TRUE, NULL))")
	// A condition does not count among the values, though it be a number's comparison.
	worth(t, "t", "CASE WHEN 1.0 = a THEN 1 END", "case:INT?(=:BOOL(1.0000, 0.0:INT), 1)")
	refuses(t, api.ErrType, "SELECT CASE WHEN 1 THEN 1 END", "SELECT CASE WHEN TRUE THEN 1 WHEN 'a' THEN 1 END", "SELECT CASE WHEN TRUE THEN 1 ELSE 'a' END", "SELECT CASE WHEN TRUE THEN 1 WHEN TRUE THEN TRUE END", "SELECT CASE WHEN TRUE THEN 1 WHEN TRUE THEN NULL ELSE x'00' END", "SELECT CASE WHEN TRUE THEN 1 WHEN TRUE THEN 1.5 ELSE 'a' END", "SELECT CASE WHEN a THEN c END FROM t", "SELECT CASE WHEN TRUE THEN 1 WHEN b THEN c END FROM t")
	// All that stands there is looked at ahead of what the values are together.
	refuses(t, api.ErrColumn, "SELECT CASE WHEN TRUE THEN 1 WHEN TRUE THEN 'a' ELSE c END", "SELECT CASE WHEN TRUE THEN c WHEN 1 THEN 1 END", "SELECT CASE WHEN c THEN d ELSE f() END", "SELECT CASE WHEN TRUE THEN 1 WHEN c THEN 'a' END")
	refuses(t, api.ErrFunc, "SELECT CASE WHEN TRUE THEN f() ELSE c END", "SELECT CASE WHEN f() THEN c END")
}

// P6.7: IN, EXISTS, scalar subqueries.
func TestSubqueries(t *testing.T) {
	one := "{map(0.0:DEC?)[a DEC?]{" + u_ + "}}"
	worth(t, "t", "a IN (SELECT a FROM u)", "in:BOOL?(0.0:INT)"+one)
	worth(t, "t", "a NOT IN (SELECT a FROM u)", "not:BOOL?(in:BOOL?(0.0:INT)"+one+")")
	worth(t, "t", "NULL IN (SELECT a FROM u)", "in:BOOL?(NULL)"+one)
	worth(t, "t", "a IN (SELECT 1)", "in:BOOL?(0.0:INT){map(1)[c1 INT]{one}}")
	worth(t, "t", "EXISTS (SELECT a FROM u)", "exists:BOOL"+one)
	worth(t, "t", "NOT EXISTS (SELECT a FROM u)", "not:BOOL(exists:BOOL"+one+")")
	worth(t, "t", "EXISTS (SELECT * FROM t)", "exists:BOOL{map(0.0:INT, 0.1:TEXT?)[a INT, b TEXT?]{"+t_+"}}")
	worth(t, "t", "(SELECT a FROM u)", "scalar:DEC?"+one)
	worth(t, "t", "(SELECT 1) + a", "+:INT?(scalar:INT?{map(1)[c1 INT]{one}}, 0.0:INT)")
	worth(t, "t", "a IN (SELECT t.a FROM u WHERE b = 'a')", "in:BOOL?(0.0:INT){map(1.0:INT)[a INT]{filter(=:BOOL?(1.1:TEXT?, 'a')){"+u_+"}}}")
	refuses(t, api.ErrColumns, "SELECT 1 IN (SELECT 1, 2)", "SELECT (SELECT 1, 2)", "SELECT 'a' IN (SELECT * FROM t)", "SELECT (SELECT * FROM t)", "SELECT 1 NOT IN (SELECT 'a', 1)")
	refuses(t, api.ErrType, "SELECT 1 IN (SELECT 'a')", "SELECT b IN (SELECT a FROM u) FROM t", "SELECT TRUE NOT IN (SELECT 1)", "SELECT NULL IN (SELECT NULL)", "SELECT x'00' IN (SELECT 'a')")
	refuses(t, api.ErrColumn, "SELECT c IN (SELECT 1, 2)", "SELECT c IN (SELECT 1 FROM x)", "SELECT 'a' IN (SELECT c)", "SELECT EXISTS (SELECT c)", "SELECT (SELECT 1, c)")
	refuses(t, api.ErrTable, "SELECT 'a' IN (SELECT c FROM x)", "SELECT EXISTS (SELECT 1 FROM x)")
}

// P6.7: aggregates: where they may stand, and of what.
func TestAggregateErrors(t *testing.T) {
	// Ahead of all else: where none may stand.
	for _, call := range []string{"count(*)", "count(a)", "sum(c)", "min()", "max(1, 2)", "sum(*)", "count(count(*))", "max('a' + 1)", "min(NULL)", "sum((SELECT 1))"} {
		refuses(t, api.ErrAgg, "SELECT 1 FROM t WHERE "+call+" = 1", "SELECT 1 WHERE TRUE OR "+call+" = 1", "SELECT 1 FROM t JOIN u ON "+call+" IS NULL", "DELETE FROM t WHERE "+call+" = 1", "SELECT count(*) FROM t WHERE NOT "+call+" = 1 GROUP BY a", "SELECT max(a) FROM t HAVING EXISTS (SELECT 1 WHERE "+call+" = 1)")
	}
	refuses(t, api.ErrFunc, "SELECT count()", "SELECT sum()", "SELECT min(1, 2)", "SELECT max()", "SELECT sum(*)", "SELECT min(*)", "SELECT max(*)", "SELECT count(1, 2)", "SELECT sum(c, d)", "SELECT min(count(*), 1)", "SELECT sum(1, (SELECT 1))", "SELECT sum('a', 1)")
	// In its argument: aggregates and subqueries ahead of all else.
	refuses(t, api.ErrAgg, "SELECT sum(count(*))", "SELECT max(1 + min(a)) FROM t", "SELECT count(c + sum(a)) FROM t", "SELECT sum('a' + (SELECT 1))", "SELECT max(c IN (SELECT 1))", "SELECT count(EXISTS (SELECT 1 FROM x))", "SELECT max(f(c, (SELECT d)))", "SELECT min(CASE WHEN c THEN d ELSE count() END)", "SELECT sum(-(c + coalesce(max(d)))) FROM t", "SELECT sum(NOT (sum(a) IS NULL)) FROM t", "SELECT sum(f() IN (SELECT 1))", "SELECT count(sum(1, 2))", "SELECT count(min(*))", "SELECT max((c + 1) IS NOT NULL OR count(*) = 1)")
	refuses(t, api.ErrColumn, "SELECT sum(c) FROM t", "SELECT count(t.c) FROM t", "SELECT max(a + c) FROM t GROUP BY a", "SELECT sum(c + 'a')", "SELECT (SELECT max(c) FROM u) FROM t")
	refuses(t, api.ErrAmbiguous, "SELECT sum(a) FROM t, u", "SELECT count(a) FROM t, u GROUP BY t.a")
	refuses(t, api.ErrFunc, "SELECT sum(f(c))", "SELECT count(length())")
	refuses(t, api.ErrType, "SELECT sum(b) FROM t", "SELECT sum(p) FROM w", "SELECT sum(NULL)", "SELECT min(NULL)", "SELECT max(NULL)", "SELECT sum('1')", "SELECT sum(x'00')", "SELECT max(coalesce(NULL))", "SELECT sum(1 + 'a')", "SELECT min(CASE WHEN TRUE THEN NULL END)")
	worth(t, "t", "count(coalesce(NULL))", "0.0:INT")
}

// P6.7: coalesce.
func TestCoalesce(t *testing.T) {
	worth(t, "t", "coalesce(b)", "coalesce:TEXT?(0.1:TEXT?)")
	worth(t, "t", "coalesce(b, 'a')", "coalesce:TEXT(0.1:TEXT?, 'a')")
	worth(t, "t", "coalesce(NULL, b, NULL)", "coalesce:TEXT?(NULL, 0.1:TEXT?, NULL)")
	worth(t, "w", "coalesce(r, s)", "coalesce:DEC(dec:DEC?(0.2:INT?), 0.3:DEC)")
	worth(t, "w", "coalesce(r, NULL, 1.5, 2)", "coalesce:DEC(dec:DEC?(0.2:INT?), NULL, 1.5000, dec:DEC(2))")
	worth(t, "w", "coalesce(1, 2)", "coalesce:INT(1, 2)")
	worth(t, "w", "coalesce(p, FALSE)", "coalesce:BOOL(0.0:BOOL, FALSE)")
	refuses(t, api.ErrFunc, "SELECT coalesce()", "SELECT coalesce(*)")
	refuses(t, api.ErrType, "SELECT coalesce(1, 'a')", "SELECT coalesce(NULL, TRUE, 1)", "SELECT coalesce(1, 1.5, x'00')", "SELECT coalesce(NULL)")
	refuses(t, api.ErrColumn, "SELECT coalesce(1, 'a', c)", "SELECT coalesce(c, f())")
}

// P6.7: length and abs.
func TestFunctions(t *testing.T) {
	worth(t, "t", "length(b)", "length:INT?(0.1:TEXT?)")
	worth(t, "w", "length(q)", "length:INT(0.1:BYTES)")
	worth(t, "w", "length(NULL)", "length:INT?(NULL)")
	worth(t, "t", "length('a')", "length:INT('a')")
	worth(t, "t", "abs(a)", "abs:INT(0.0:INT)")
	worth(t, "u", "abs(a)", "abs:DEC?(0.0:DEC?)")
	refuses(t, api.ErrType, "SELECT length(1)", "SELECT length(TRUE)", "SELECT length(1.5)", "SELECT abs('a')", "SELECT abs(NULL)", "SELECT abs(TRUE)", "SELECT abs(q) FROM w", "SELECT abs(1 + 'a')")
	refuses(t, api.ErrFunc, "SELECT length()", "SELECT abs()", "SELECT length('a', 'a')", "SELECT abs(1, 2)", "SELECT length(*)", "SELECT abs(*)", "SELECT length(1, TRUE)", "SELECT abs('a', 'b')")
	refuses(t, api.ErrColumn, "SELECT length(c)", "SELECT abs(c)")
	// The arguments are looked at first: how many they are is what is wrong with the call itself.
	refuses(t, api.ErrColumn, "SELECT length('a', c)", "SELECT abs(c, 1)")
}

// P6.7: of all other names ErrFunc, ahead of what they are called with.
func TestOtherFunctions(t *testing.T) {
	for _, name := range []string{"f", "counts", "sum_", "avg", "lengths", "upper", "t", "a", "coalesc", "not_", "int_"} {
		refuses(t, api.ErrFunc, "SELECT "+name+"()", "SELECT "+name+"(*)", "SELECT "+name+"(1)", "SELECT "+name+"(c, 1 + 'a')", "SELECT "+name+"((SELECT 1 FROM x))", "SELECT "+name+"(a) FROM t", "SELECT "+name+"(count(1, 2))", "SELECT 1 WHERE "+name+"(count(*))")
	}
	refuses(t, api.ErrColumn, "SELECT c + f()")
	refuses(t, api.ErrFunc, "SELECT f() + c")
}
