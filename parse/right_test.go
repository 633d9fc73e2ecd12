package parse_test

import (
	"maps"
	"math"
	"regexp"
	"slices"
	"strings"
	"testing"

	"freshet/api"
	"freshet/datum"
	"freshet/parse"
)

// kindNames are the kinds of nodes, by the names that the chapter's table has for them.
func kindNames() map[string]int {
	return map[string]int{
		"ACreateTable": api.ACreateTable, "ACreateView": api.ACreateView, "ACreateIndex": api.ACreateIndex, "ADrop": api.ADrop, "AInsert": api.AInsert, "ADelete": api.ADelete, "ASubscribe": api.ASubscribe, "AColDef": api.AColDef, "AName": api.AName, "ARow": api.ARow,
		"ASelect": api.ASelect, "ASet": api.ASet, "ATop": api.ATop, "AItems": api.AItems, "AStar": api.AStar, "AItem": api.AItem, "AFrom": api.AFrom, "AWhere": api.AWhere, "AGroup": api.AGroup, "AHaving": api.AHaving, "AKey": api.AKey, "ATable": api.ATable, "ASub": api.ASub, "AJoin": api.AJoin,
		"ALit": api.ALit, "AColumn": api.AColumn, "AOp": api.AOp, "ACall": api.ACall, "AIn": api.AIn, "AExists": api.AExists, "AScalar": api.AScalar, "ACase": api.ACase, "AIsNull": api.AIsNull,
	}
}

// shape is a line of the table: which fields a kind has (Name? may be empty; Num has its bounds in low and high), and its Kids.
type shape struct {
	fields    string
	low, high int
	kids      string
}

// shapes is the table, but for what hangs on a node's own fields.
func shapes() map[string]shape {
	return map[string]shape{
		"ACreateTable": {"Name", 0, 0, "AColDef+"}, "ACreateView": {"Name", 0, 0, "Query"}, "ACreateIndex": {"Name Alias", 0, 0, "AName+"}, "ADrop": {"Name", 1, 3, ""},
		"AInsert": {"Name", 0, 0, "ARow+"}, "ADelete": {"Name", 0, 0, "Expr?"}, "ASubscribe": {"Name", 0, 0, ""}, "AColDef": {"Name Flag", 1, 5, ""}, "AName": {"Name", 0, 0, ""}, "ARow": {"", 0, 0, "ALit+"},
		"ASelect": {"Flag", 0, 0, "AItems AFrom AWhere AGroup AHaving"}, "ASet": {"Flag", 1, 3, "Query Query"}, "ATop": {"", 0, 1000000, "Query AKey*"}, "AItems": {"", 0, 0, "(AStar|AItem)+"}, "AStar": {"", 0, 0, ""}, "AItem": {"Name?", 0, 0, "Expr"},
		"AFrom": {"", 0, 0, "(Source|AJoin)*"}, "AWhere": {"", 0, 0, "Expr?"}, "AHaving": {"", 0, 0, "Expr?"}, "AGroup": {"Flag", 0, 0, "AColumn*"}, "AKey": {"Name Flag", 0, 0, ""},
		"ATable": {"Name Alias?", 0, 0, ""}, "ASub": {"Alias Flag", 0, 0, "Query"}, "AJoin": {"", 1, 2, "(Source|AJoin) Source Expr"},
		"ALit": {"Lit", 0, 0, ""}, "AColumn": {"Name Alias?", 0, 0, ""}, "AOp": {"", 1, 14, "Expr Expr?"}, "ACall": {"Name Flag", 0, 0, "Expr*"}, "AIn": {"Flag", 0, 0, "Expr Query"}, "AExists": {"", 0, 0, "Query"}, "AScalar": {"", 0, 0, "Query"},
		"ACase": {"Flag", 0, 0, "Expr Expr+"}, "AIsNull": {"Flag", 0, 0, "Expr"},
	}
}

// rune of a kind, as which it stands in a pattern.
func letter(kind int) rune {
	if kind < 0 || kind > 99 {
		return 'x'
	}
	return rune(0x4e00 + kind)
}

// checker holds trees against the table.
type checker struct {
	names    map[int]string
	shapes   map[string]shape
	patterns map[string]*regexp.Regexp
	name     *regexp.Regexp
}

func newChecker() *checker {
	c := &checker{map[int]string{}, shapes(), map[string]*regexp.Regexp{}, regexp.MustCompile(`^[a-z_][a-z_0-9]{0,19}$`)}
	letters := map[string]string{"Query": "", "Expr": "", "Source": ""}
	for name, kind := range kindNames() {
		c.names[kind] = name
		letters[name] = string(letter(kind))
	}
	letters["Query"] = "[" + letters["ASelect"] + letters["ASet"] + letters["ATop"] + "]"
	letters["Source"] = "[" + letters["ATable"] + letters["ASub"] + "]"
	letters["Expr"] = "[" + string(letter(api.ALit)) + "-" + string(letter(api.AIsNull)) + "]"
	word := regexp.MustCompile(`[A-Za-z]+`)
	for name, shape := range c.shapes {
		pattern := word.ReplaceAllStringFunc(shape.kids, func(s string) string { return letters[s] })
		c.patterns[name] = regexp.MustCompile("^(" + strings.ReplaceAll(pattern, " ", "") + ")$")
	}
	return c
}

func (c *checker) isName(s string) bool {
	return c.name.MatchString(s) && !slices.Contains(words(), strings.ToUpper(s))
}

// has tells whether a node's fields are those that the table has.
func (c *checker) has(a api.Ast, s shape) bool {
	fields := " " + s.fields + " "
	for field, value := range map[string]string{"Name": a.Name, "Alias": a.Alias} {
		empty := !strings.Contains(fields, " "+field+" ")
		named := strings.Contains(fields, " "+field)
		if value == "" && !empty || value != "" && !(named && c.isName(value)) {
			return false
		}
	}
	if a.Flag && !strings.Contains(fields, " Flag ") || a.Num < s.low || a.Num > s.high {
		return false
	}
	return a.Lit == api.Datum{} || strings.Contains(fields, " Lit ") && datum.Right(a.Lit)
}

func (c *checker) right(a api.Ast) bool {
	name := c.names[a.Kind]
	var kids []rune
	for _, kid := range a.Kids {
		if !c.right(kid) {
			return false
		}
		kids = append(kids, letter(kid.Kind))
	}
	if name == "" || !c.has(a, c.shapes[name]) || !c.patterns[name].MatchString(string(kids)) {
		return false
	}
	switch n := len(a.Kids); a.Kind {
	case api.AGroup:
		return a.Flag == (n > 0)
	case api.AOp:
		return n == 1 == (a.Num == api.OpNeg || a.Num == api.OpNot)
	case api.ACall:
		return n == 0 || !a.Flag
	case api.ACase:
		return n%2 == 0 && !a.Flag || n%2 == 1 && a.Flag
	case api.AScalar:
		s, _ := parse.Print(a.Kids[0])
		return strings.HasPrefix(s, "SELECT")
	}
	return true
}

// statement tells what Right has to tell.
func (c *checker) statement(a api.Ast) api.Errno {
	switch {
	case depth(a) > api.MaxDepth:
		return api.ErrDeep
	case size(a) > api.MaxTokens || !c.right(a) || a.Kind > api.ASubscribe && (a.Kind < api.ASelect || a.Kind > api.ATop):
		return api.ErrAst
	}
	return api.OK
}

func depth(a api.Ast) int {
	d := 0
	for _, kid := range a.Kids {
		d = max(d, depth(kid))
	}
	return d + 1
}

func size(a api.Ast) int {
	n := 1
	for _, kid := range a.Kids {
		n += size(kid)
	}
	return n
}

// words are the words of the language.
func words() []string {
	return strings.Fields("ALL AND AS ASC BOOL BY BYTES CASE CREATE DEC DELETE DESC DISTINCT DROP ELSE END EXCEPT EXISTS FALSE FROM GROUP HAVING IN INDEX INNER INSERT INT INTERSECT INTO IS JOIN LATERAL LEFT LIMIT NOT NULL ON OR ORDER SELECT SUBSCRIBE TABLE TEXT THEN TRUE UNION VALUES VIEW WHEN WHERE")
}

// changes are what makes a node another one, which may be wrong; what they change is the node alone.
func changes() []func(a *api.Ast) {
	var l []func(a *api.Ast)
	for _, s := range []string{"", "a", "b1", "_", "A", "select", "1a", "a b", "a-", " a", "ß", "abcdefghij0123456789", "abcdefghij01234567890", "all", "a.b", "'a'", "a\n"} {
		l = append(l, func(a *api.Ast) { a.Name = s }, func(a *api.Ast) { a.Alias = s })
	}
	for _, num := range []int{-1, 0, 1, 2, 3, 4, 5, 6, 13, 14, 15, api.MaxLimit, api.MaxLimit + 1, math.MaxInt, math.MinInt} {
		l = append(l, func(a *api.Ast) { a.Num = num })
	}
	for _, d := range []api.Datum{{}, {Kind: api.Int, I: 1}, {Kind: api.Bool, I: 2}, {Kind: 6}, {Kind: api.Text, S: "\xff"}, {S: "a"}, {I: 1}, {Kind: api.Bytes, S: strings.Repeat("a", api.MaxText+1)}, {Kind: api.Dec, I: least}} {
		l = append(l, func(a *api.Ast) { a.Lit = d })
	}
	for _, kind := range append(slices.Sorted(maps.Values(kindNames())), -1, 0, 11, 19, 34, 39, 49, api.ALit-64, api.ALit+64, api.ALit+1<<32, math.MinInt, math.MaxInt) {
		l = append(l, func(a *api.Ast) { a.Kind = kind })
	}
	for _, kid := range []api.Ast{{}, column("a"), null(), one(1), top(1, top(1, one(1))), {Kind: api.AStar}, key("a", true), table("t", ""), join(1, table("a", ""), table("b", ""), null()), {Kind: api.AName, Name: "a"}, node(api.ARow, null())} {
		l = append(l, func(a *api.Ast) { a.Kids = append(slices.Clone(a.Kids), kid) })
		l = append(l, func(a *api.Ast) { a.Kids = append([]api.Ast{kid}, a.Kids...) })
		l = append(l, func(a *api.Ast) { a.Kids = append([]api.Ast{kid}, a.Kids[min(1, len(a.Kids)):]...) })
	}
	return append(l,
		func(a *api.Ast) { a.Flag = !a.Flag },
		func(a *api.Ast) { a.Kids = nil },
		func(a *api.Ast) { a.Kids = a.Kids[:max(0, len(a.Kids)-1)] },
		func(a *api.Ast) { a.Kids = a.Kids[min(1, len(a.Kids)):] },
		func(a *api.Ast) { a.Kids = append(slices.Clone(a.Kids), a.Kids...) },
		func(a *api.Ast) { a.Kids = slices.Clone(a.Kids); slices.Reverse(a.Kids) },
	)
}

// places are all nodes of a tree.
func places(a *api.Ast) []*api.Ast {
	l := []*api.Ast{a}
	for i := range a.Kids {
		l = append(l, places(&a.Kids[i])...)
	}
	return l
}

// judged asks that Right, and Print, tell of a tree what the table does, and tells it.
func judged(t *testing.T, c *checker, a api.Ast) api.Errno {
	t.Helper()
	want := c.statement(a)
	if got := parse.Right(a); got != want {
		t.Fatalf("%v: error %d; want %d", a, got, want)
	}
	if s, bad := parse.Print(a); want != api.OK && (bad != want || s != "") {
		t.Fatalf("%v: printed %q, error %d; want %d", a, s, bad, want)
	}
	return want
}

// P5.2: trees that have every kind of node, with each node of theirs changed in every way, held against the table.
func TestRightByTable(t *testing.T) {
	c, found := newChecker(), map[api.Errno]int{}
	for _, s := range texts() {
		a, _, _ := parse.Parse(s)
		judged(t, c, a)
		for _, place := range places(&a) {
			before := *place
			for _, change := range changes() {
				change(place)
				found[judged(t, c, a)]++
				*place = before
			}
		}
	}
	if found[api.OK] < 2000 || found[api.ErrAst] < 10000 {
		t.Errorf("not enough of both: %v", found)
	}
}

// P5.2: the same of any trees, with a node or two of theirs changed.
func TestRightOfAny(t *testing.T) {
	c, by, l := newChecker(), lot(4), changes()
	found := map[api.Errno]int{}
	for i := range 6000 {
		a := clone(someStatement(by, 1+i%6))
		for range i % 3 {
			pick(by, l...)(pick(by, places(&a)...))
		}
		found[judged(t, c, a)]++
	}
	if found[api.OK] < 1500 || found[api.ErrAst] < 1500 {
		t.Errorf("not enough of both: %v", found)
	}
}

// P5.2: every kind alone: only statements may stand by themselves.
func TestRightKinds(t *testing.T) {
	right := map[int]api.Ast{}
	for _, a := range []api.Ast{
		{Kind: api.ACreateTable, Name: "t", Kids: []api.Ast{{Kind: api.AColDef, Name: "a", Num: 1}}}, {Kind: api.ACreateView, Name: "v", Kids: []api.Ast{one(1)}}, {Kind: api.ACreateIndex, Name: "i", Alias: "t", Kids: []api.Ast{{Kind: api.AName, Name: "a"}}}, {Kind: api.ADrop, Num: 1, Name: "t"}, {Kind: api.AInsert, Name: "t", Kids: []api.Ast{node(api.ARow, null())}}, {Kind: api.ADelete, Name: "t"}, {Kind: api.ASubscribe, Name: "t"},
		one(1), set(1, false, one(1), one(2)), top(1, one(1)),
	} {
		right[a.Kind] = a
	}
	others := []api.Ast{{}, {Kind: api.AColDef, Name: "a", Num: 1}, {Kind: api.AName, Name: "a"}, node(api.ARow, null()), node(api.AItems, node(api.AStar)), node(api.AStar), item(null()), node(api.AFrom), node(api.AWhere), node(api.AGroup), node(api.AHaving), key("a", false), table("t", ""), sub(false, one(1), "a"), join(1, table("t", ""), table("u", ""), null()), null(), column("a"), op(api.OpNot, null()), call("f"), in(false, null(), one(1)), exists(one(1)), scalar(one(1)), cases(null(), null()), isNull(false, null())}
	for _, a := range right {
		if bad := parse.Right(a); bad != api.OK {
			t.Errorf("%v: error %d", a, bad)
		}
	}
	for _, a := range others {
		wrong(t, a, api.ErrAst)
	}
	for _, kind := range []int{-1, 11, 19, 34, 39, 49, 64 + api.ADrop, 1<<32 + api.ADrop, -64 + api.ADrop, math.MaxInt, math.MinInt} {
		wrong(t, api.Ast{Kind: kind, Num: 1, Name: "t"}, api.ErrAst)
		wrong(t, api.Ast{Kind: kind}, api.ErrAst)
	}
}

// P5.2: names are in small letters, no words, and of MaxName bytes or less.
func TestRightNames(t *testing.T) {
	named := func(s string) []api.Ast {
		return []api.Ast{{Kind: api.ASubscribe, Name: s}, {Kind: api.ACreateIndex, Name: "i", Alias: s, Kids: []api.Ast{{Kind: api.AName, Name: "a"}}}, with(query(node(api.AStar)), api.AFrom, sub(false, one(1), s)), asks(of("a", s)), asks(call(s))}
	}
	for _, s := range []string{"a", "_", "z9", "_0", "selec", "selects", "count", "x", "abcdefghij_123456789", "right", "outer"} {
		for _, a := range named(s) {
			if bad := parse.Right(a); bad != api.OK {
				t.Errorf("%q: error %d", s, bad)
			}
		}
	}
	l := []string{"", "A", "aB", "0", "0a", "a ", " a", "a\n", "a--", "a a", "a.a", "a;", "'a'", "x''", "ß", "aß", "a\xff", "a\x00", "K", "*", "-", "(", "abcdefghij_1234567890", strings.Repeat("a", api.MaxSql), strings.Repeat("a", api.MaxSql+1), strings.Repeat(" ", api.MaxSql) + "a"}
	for _, word := range words() {
		l = append(l, word, strings.ToLower(word))
	}
	for _, s := range l {
		for _, a := range named(s) {
			wrong(t, a, api.ErrAst)
		}
	}
	// Optional ones may be empty, and nothing else that is no name.
	for _, s := range l[1:] {
		wrong(t, asks(of(s, "a")), api.ErrAst)
		wrong(t, with(one(1), api.AFrom, table("t", s)), api.ErrAst)
	}
}

// P5.2: many names, one of which is none, wherever it stands.
func TestRightManyNames(t *testing.T) {
	l := make([]api.Ast, 900)
	for i := range l {
		l[i] = item(column("abcdefghij_123456789"))
		if i%2 == 1 {
			l[i] = node(api.AStar)
		}
	}
	l = l[:600]
	if bad := parse.Right(query(l...)); bad != api.OK {
		t.Errorf("error %d", bad)
	}
	for i := 0; i < len(l); i += 2 {
		for _, s := range []string{"b b", "b ", "all", "B", "b--", "'b'"} {
			l[i] = item(column(s))
			if bad := parse.Right(query(l...)); bad != api.ErrAst {
				t.Fatalf("%q at %d: error %d", s, i, bad)
			}
		}
		l[i] = item(column("b"))
	}
}

// P5.2: ErrDeep of more than MaxDepth nodes within one another, ahead of all else; ErrAst of more than MaxTokens nodes.
func TestRightBounds(t *testing.T) {
	if bad := parse.Right(limits(26)); bad != api.OK {
		t.Errorf("30 nodes within one another: error %d", bad)
	}
	wrong(t, limits(27), api.ErrDeep)
	wrong(t, limits(5000), api.ErrDeep)
	chain := api.Ast{}
	for range api.MaxDepth - 1 {
		chain = node(-7, chain)
	}
	wrong(t, chain, api.ErrAst)
	wrong(t, node(-7, chain), api.ErrDeep)
	wrong(t, node(0, api.Ast{}, api.Ast{}, node(0, api.Ast{}, node(0, chain))), api.ErrDeep)
	insert := func(n int) api.Ast {
		return api.Ast{Kind: api.AInsert, Name: "t", Kids: []api.Ast{node(api.ARow, slices.Repeat([]api.Ast{integer(1)}, n)...)}}
	}
	if bad := parse.Right(insert(api.MaxTokens - 2)); bad != api.OK {
		t.Errorf("1000 nodes: error %d", bad)
	}
	wrong(t, insert(api.MaxTokens-1), api.ErrAst)
	wrong(t, insert(1<<20), api.ErrAst)
	many := insert(1 << 16)
	many.Kids = append(many.Kids, node(api.ARow, limits(29)))
	wrong(t, many, api.ErrDeep)
}

// P5.2: a scalar subquery's text begins with SELECT, not with a parenthesis.
func TestRightScalars(t *testing.T) {
	a, b, c := one(1), one(2), one(3)
	for _, q := range []api.Ast{a, top(1, a), set(1, false, a, b), set(3, false, a, set(1, false, b, c)), set(1, false, a, top(1, b)), set(2, false, set(3, false, a, b), c), set(3, false, set(3, false, a, b), c), set(1, false, set(2, false, a, b), c), top(1, set(1, false, a, b), key("a", true))} {
		if bad := parse.Right(asks(scalar(q))); bad != api.OK {
			t.Errorf("%v: error %d", q, bad)
		}
	}
	for _, q := range []api.Ast{top(1, top(2, a)), set(1, false, top(1, a), b), set(3, false, set(1, false, a, b), c), set(3, false, set(2, true, a, b), c), set(1, false, set(3, false, set(1, false, a, b), c), a), top(1, set(3, false, set(1, false, a, b), c)), set(2, false, set(2, false, top(1, a), b), c)} {
		wrong(t, asks(scalar(q)), api.ErrAst)
		if bad := parse.Right(asks(exists(q))); bad != api.OK {
			t.Errorf("%v of EXISTS: error %d", q, bad)
		}
		if bad := parse.Right(asks(in(true, null(), q))); bad != api.OK {
			t.Errorf("%v of IN: error %d", q, bad)
		}
	}
}

// P5.2: a CASE has two expressions or more, an odd number of them just if there is an ELSE.
func TestRightCases(t *testing.T) {
	for n := range 8 {
		for _, flag := range []bool{false, true} {
			a := asks(api.Ast{Kind: api.ACase, Flag: flag, Kids: slices.Repeat([]api.Ast{null()}, n)})
			if bad := parse.Right(a); (bad == api.OK) != (n >= 2 && flag == (n%2 == 1)) {
				t.Errorf("%d expressions, %v: error %d", n, flag, bad)
			}
		}
	}
}
