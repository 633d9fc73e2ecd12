package parse_test

import (
	"slices"
	"strings"
	"testing"

	"freshet/api"
	"freshet/lex"
	"freshet/parse"
)

// expects is the error, and its place, that the chapter has of tokens: of which the grammar lets by so many from the left, and that may end there.
func expects(tokens []api.Token, lets int, ends bool) (api.Errno, int) {
	open := 0
	for i, token := range tokens[:lets] {
		switch {
		case token.Lit.I < 0 && !negated(tokens[:i]):
			return api.ErrDigit, token.At
		case i > 0 && tokens[i-1].S == "LIMIT" && token.Lit.I > api.MaxLimit:
			return api.ErrDigit, token.At
		case token.S == "(" || token.S == "CASE":
			if open == api.MaxDepth {
				return api.ErrDeep, token.At
			}
			open++
		case token.S == ")" || token.S == "END":
			open--
		}
	}
	switch {
	case tokens[lets].Kind != api.TEnd:
		return api.ErrToken, tokens[lets].At
	case !ends:
		return api.ErrEnd, tokens[lets].At
	}
	return api.OK, 0
}

// negated tells whether the last one of tokens, none of which is wrong, is the - of neg, or of literal: there is nothing ahead of which it could take something.
func negated(tokens []api.Token) bool {
	n := len(tokens)
	if n < 2 || tokens[n-1].S != "-" {
		return false
	}
	ahead := tokens[n-2]
	return ahead.Kind != api.TName && ahead.Kind != api.TValue && !slices.Contains([]string{")", "END", "TRUE", "FALSE", "NULL"}, ahead.S)
}

// judge asks that a text is read as the grammar says.
func judge(t *testing.T, g grammar, s string) api.Errno {
	t.Helper()
	tokens, bad, at := lex.Lex(s)
	want, place := bad, at
	if bad == api.OK {
		lets, ends := g.lets(tokens[:len(tokens)-1])
		want, place = expects(tokens, lets, ends)
	}
	a, bad, at := parse.Parse(s)
	if want == api.OK && bad == api.ErrDeep && strings.Count(s, " ") > api.MaxDepth/2 {
		want = bad // of the tree, which is not there to be looked at
	}
	if bad != want || at != place || bad != api.OK && !same(a, api.Ast{}) {
		t.Fatalf("%q: error %d at %d; want error %d at %d", s, bad, at, want, place)
	}
	if bad == api.OK {
		survives(t, s, a)
	}
	return bad
}

// survives asks that a tree that was read is a statement's, and printed and read again the same.
func survives(t *testing.T, s string, a api.Ast) {
	t.Helper()
	if bad := parse.Right(a); bad != api.OK {
		t.Fatalf("%q: error %d of its tree", s, bad)
	}
	p, bad := parse.Print(a)
	if bad == api.ErrLong && p == "" {
		return
	}
	b, again, at := parse.Parse(p)
	if bad != api.OK || again != api.OK || at != 0 || !same(a, b) {
		t.Fatalf("%q, printed with error %d: %q, read with error %d at %d", s, bad, p, again, at)
	}
	q, bad := parse.Print(b)
	if q != p || bad != api.OK {
		t.Fatalf("%q: printed as %q, then, with error %d, as %q", s, p, bad, q)
	}
}

// P5.1, P5.4: texts that the grammar makes, and such with a few pieces changed, are read as it says, or refused at the first token that it does not let by.
func TestGrammar(t *testing.T) {
	g := theGrammar()
	author, by := newAuthor(g, 1), lot(1)
	found := map[api.Errno]int{}
	pieces := strings.Fields("a b 1 9223372036854775808 1000001 'x' - - -- ( ) , . ; * + = <= SELECT FROM WHERE GROUP BY HAVING ORDER LIMIT UNION INTERSECT ALL AS ON JOIN LEFT NOT IN IS NULL AND OR CASE WHEN THEN ELSE END EXISTS LATERAL INNER VALUES INSERT INTO DELETE TRUE DESC")
	for i := range 15000 {
		l := author.statement(i % 60)
		for range by.IntN(3) {
			at := by.IntN(len(l) + 1)
			l = slices.Replace(l, at, min(len(l), at+by.IntN(2)), pieces[by.IntN(len(pieces))])
			if chance(by, 3) {
				at = by.IntN(len(l))
				l = slices.Delete(l, at, at+1)
			}
		}
		found[judge(t, g, strings.Join(l, " "))]++
	}
	for _, bad := range []api.Errno{api.OK, api.ErrToken, api.ErrEnd, api.ErrDigit, api.ErrDeep} {
		if found[bad] < 100 {
			t.Errorf("error %d was met %d times: %v", bad, found[bad], found)
		}
	}
}

// P5.1: the same of pieces one behind the other, wherever they come from.
func TestPieces(t *testing.T) {
	g, by := theGrammar(), lot(2)
	pieces := strings.Fields("a 1 2.5 'x' x'00' -1 - ( ) , . ; * + / = < >= SELECT 1 a FROM t WHERE a GROUP BY a HAVING a ORDER BY a LIMIT 1 UNION INTERSECT EXCEPT ALL AS x ON TRUE JOIN t LEFT INNER NOT IN IS NULL AND OR CASE WHEN THEN ELSE END EXISTS LATERAL ( SELECT ( DISTINCT ASC DESC f(")
	heads := []string{"", "SELECT", "SELECT a", "SELECT a FROM t", "SELECT ( SELECT 1 )", "SELECT a WHERE", "(", "DELETE FROM t WHERE", "SELECT a IN ( ", "SELECT a FROM (", "CREATE VIEW v AS", "INSERT INTO t VALUES (", "SELECT 1 UNION", "CREATE TABLE t ( a INT", "CREATE INDEX i ON t ( a"}
	for i := range 15000 {
		s := pick(by, heads...)
		for range i % 12 {
			s += " " + pieces[by.IntN(len(pieces))]
		}
		judge(t, g, s)
	}
}

// P5.1: every beginning of a right text ends too early, or is one.
func TestBeginnings(t *testing.T) {
	g := theGrammar()
	author := newAuthor(g, 3)
	for i := range 200 {
		l := author.statement(i % 60)
		for n := range l {
			judge(t, g, strings.Join(l[:n], " "))
		}
	}
}

// P5.4, P5.3: what is printed, of any statement's tree, is read as the same tree, and has blanks where the promise says.
func TestTreesAgain(t *testing.T) {
	by, found := lot(5), 0
	for i := range 12000 {
		a := someStatement(by, i%8)
		s, bad := parse.Print(a)
		if bad != parse.Right(a) && bad != api.ErrLong {
			t.Fatalf("%v: error %d", a, bad)
		}
		if bad != api.OK {
			continue
		}
		found++
		b, bad, at := parse.Parse(s)
		if bad != api.OK || at != 0 || !same(a, b) {
			t.Fatalf("%v: printed as %q, read as %v, error %d at %d", a, s, b, bad, at)
		}
		if spaced(s) != s {
			t.Fatalf("%q; want %q", s, spaced(s))
		}
	}
	if found < 9000 {
		t.Errorf("%d trees were printed", found)
	}
}

// P5.4: the same of trees as deep as they may be, one kind of node within another.
func TestDeepTreesAgain(t *testing.T) {
	for i := range 14 {
		for j := range 14 {
			a := column("a")
			for n := 0; ; n++ {
				more := nest([]int{i, j}[n%2], a)
				if depth(asks(more)) > api.MaxDepth {
					wrong(t, asks(more), api.ErrDeep)
					break
				}
				a = more
			}
			s, bad := parse.Print(asks(a))
			if bad != api.OK {
				t.Fatalf("%v: error %d", a, bad)
			}
			reads(t, s, asks(a))
		}
	}
}

// nest puts an expression into another one.
func nest(way int, a api.Ast) api.Ast {
	b := column("b")
	return []func() api.Ast{
		func() api.Ast { return op(api.OpNeg, a) },
		func() api.Ast { return op(api.OpNot, a) },
		func() api.Ast { return op(api.OpSub, a, b) },
		func() api.Ast { return op(api.OpSub, b, a) },
		func() api.Ast { return isNull(true, a) },
		func() api.Ast { return in(true, a, one(1)) },
		func() api.Ast { return in(false, b, asks(a)) },
		func() api.Ast { return exists(top(1, top(2, asks(a)))) },
		func() api.Ast { return scalar(with(one(1), api.AFrom, sub(true, asks(a), "x"))) },
		func() api.Ast { return cases(a, b) },
		func() api.Ast { return cases(b, b, a) },
		func() api.Ast { return call("f", b, a) },
		func() api.Ast { return exists(set(3, false, set(1, false, one(1), asks(a)), one(2))) },
		func() api.Ast { return scalar(set(2, false, one(1), set(3, true, asks(a), one(2)))) },
	}[way]()
}
