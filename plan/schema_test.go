package plan_test

import (
	"slices"
	"strings"
	"testing"

	"freshet/api"
	"freshet/parse"
	"freshet/plan"
)

// one is a schema of one column.
func one(name string) api.Schema {
	return api.Schema{Name: name, Cols: []api.Col{{Name: "a", Type: api.Int}}}
}

// P6.1: schemas that may be.
func TestSchemas(t *testing.T) {
	wide := api.Schema{Name: "t", Cols: many(api.MaxCols)}
	types := api.Schema{Name: "types", Cols: []api.Col{{Name: "a", Type: api.Bool}, {Name: "b", Type: api.Int}, {Name: "c", Type: api.Dec}, {Name: "d", Type: api.Text, Null: true}, {Name: "e", Type: api.Bytes}}}
	long := []api.Schema{one("abcdefghij_123456789"), {Name: "_", Cols: []api.Col{{Name: "abcdefghij_123456789", Type: api.Int}, {Name: "_0", Type: api.Int}}}}
	var lots []api.Schema
	for _, col := range many(300) {
		lots = append(lots, api.Schema{Name: col.Name, Cols: many(api.MaxCols)})
	}
	for i, l := range [][]api.Schema{nil, {}, {one("t")}, {wide}, {types}, long, {one("t"), one("u"), one("a")}, {one("count"), one("sum")}, lots} {
		if _, bad := plan.Check(l, tree(t, "SELECT 1")); bad != api.OK {
			t.Errorf("%d: error %d", i, bad)
		}
	}
}

// notNames are texts that are no names.
func notNames() []string {
	return []string{"", "A", "aB", "0", "1a", "a ", " a", "a b", "a.b", "a\n", "a--", "'a'", "\"a\"", "ß", "a\xff", "a\x00", "*", "abcdefghij_1234567890", strings.Repeat("a", api.MaxSql+1), "select", "SELECT", "all", "text", "null", "lateral"}
}

// P6.1: ErrArg of schemas that may not be, ahead of all else.
func TestSchemasThatMayNotBe(t *testing.T) {
	cols := func(l ...api.Col) []api.Schema { return []api.Schema{one("t"), {Name: "u", Cols: l}, one("v")} }
	col := func(name string, kind int) api.Col { return api.Col{Name: name, Type: kind} }
	l := [][]api.Schema{
		{one("t"), one("t")}, {one("t"), one("u"), one("v"), one("t")},
		cols(), cols(many(api.MaxCols + 1)...), cols(many(1000)...),
		cols(col("a", api.Int), col("a", api.Int)), cols(col("a", api.Int), col("b", api.Text), col("a", api.Text)),
		{{}},
	}
	for _, kind := range []int{api.Null, -1, api.Bytes + 1, 1 << 32, 1<<32 + 1, -1 << 63, 1<<63 - 1} {
		l = append(l, cols(col("a", kind)), cols(col("a", api.Int), col("b", kind)))
	}
	for _, name := range notNames() {
		l = append(l, []api.Schema{one(name)}, []api.Schema{one("t"), one(name), one("u")}, cols(col(name, api.Int)), cols(col("a", api.Int), col(name, api.Int), col("b", api.Int)))
	}
	for i, l := range l {
		for _, s := range []string{"SELECT 1", "SELECT x", "DROP TABLE t", "CREATE TABLE t (a INT)"} {
			refusesTree(t, s, l, tree(t, s), api.ErrArg)
		}
		refusesTree(t, "no tree", l, api.Ast{}, api.ErrArg)
		if t.Failed() {
			t.Fatalf("schemas %d: %v", i, l)
		}
	}
}

// P6.1: the same, wherever in many schemas it stands.
func TestManySchemas(t *testing.T) {
	var l []api.Schema
	for _, col := range many(65) {
		l = append(l, api.Schema{Name: col.Name, Cols: many(api.MaxCols)})
	}
	a := tree(t, "SELECT c65.c16 FROM c65")
	if _, bad := plan.Check(l, a); bad != api.OK {
		t.Errorf("error %d", bad)
	}
	for i := range l {
		for n := range l[i].Cols {
			l[i].Cols[n].Name = "A"
			refusesTree(t, "a wrong column", l, a, api.ErrArg)
			l[i].Cols[n].Name = many(n + 1)[n].Name
		}
		l[i].Name = "as"
		refusesTree(t, "a wrong name", l, a, api.ErrArg)
		l[i].Name = l[(i+33)%len(l)].Name
		refusesTree(t, "a name twice", l, a, api.ErrArg)
		l[i].Name = many(i + 1)[i].Name
	}
}

// P6.1: parse.Right's error of a tree, ahead of all that a statement can have.
func TestTrees(t *testing.T) {
	deep := tree(t, "SELECT x")
	for range api.MaxDepth {
		deep = api.Ast{Kind: api.ATop, Kids: []api.Ast{deep}}
	}
	wrong := []api.Ast{{}, {Kind: -1}, {Kind: api.ADrop, Num: 4, Name: "x"}, {Kind: api.ADrop, Num: 1}, {Kind: api.AInsert, Name: "x"}, {Kind: api.ALit}, {Kind: api.ASelect}, {Kind: api.ATable, Name: "t"}, {Kind: api.ASubscribe, Name: "SELECT"}, {Kind: api.ACreateTable, Name: "t"}, deep}
	for _, change := range []func(a *api.Ast){
		func(a *api.Ast) { a.Num = 1 }, func(a *api.Ast) { a.Kids[0].Kids[0].Kids[0].Name = "A" }, func(a *api.Ast) { a.Kids[1].Kids[0].Name = "" }, func(a *api.Ast) { a.Kids = a.Kids[:4] }, func(a *api.Ast) { a.Kids[3].Flag = true }, func(a *api.Ast) { a.Kids[2].Kids[0].Kids = a.Kids[2].Kids[0].Kids[:1] },
	} {
		a := tree(t, "SELECT x FROM nosuch WHERE y = z")
		change(&a)
		wrong = append(wrong, a)
	}
	found := map[api.Errno]int{}
	for _, a := range wrong {
		want := parse.Right(a)
		found[want]++
		refusesTree(t, "a wrong tree", schemas(), a, want)
	}
	if found[api.ErrAst] != len(wrong)-1 || found[api.ErrDeep] != 1 {
		t.Errorf("%v", found)
	}
}

// P6.1: Reads: what a statement names, rising, each once.
func TestReads(t *testing.T) {
	for s, want := range map[string]string{
		"SELECT 1": "", "SELECT a FROM t": "t", "SELECT t.a FROM w, t, wide, u": "t u w wide", "SELECT x.a FROM t AS x, t AS y, t AS z": "t",
		"SELECT (SELECT count(*) FROM w WHERE 1 IN (SELECT c1 FROM wide)) FROM u AS t WHERE EXISTS (SELECT * FROM t) GROUP BY a": "u t w wide",
		"SELECT 1 FROM u AS t": "u",
		"SELECT 1 FROM u AS x JOIN t AS y ON EXISTS (SELECT 1 FROM w)": "t u w",
		"SELECT a FROM t UNION SELECT r FROM w ORDER BY a LIMIT 1":     "t w",
		"CREATE VIEW v AS SELECT x.a FROM (SELECT a FROM t) AS x":      "t",
		"CREATE TABLE x (a INT)":                                       "",
		"CREATE INDEX i ON u (a)":                                      "u",
		"DROP TABLE t":                                                 "", "DROP VIEW t": "", "DROP INDEX t": "",
		"INSERT INTO u VALUES (1)": "u", "SUBSCRIBE w": "w",
		"DELETE FROM w": "w", "DELETE FROM w WHERE r IN (SELECT a FROM t)": "t w", "DELETE FROM u WHERE a IN (SELECT a FROM u)": "u",
	} {
		l := strings.Fields(want)
		slices.Sort(l)
		if c := checked(t, s); !slices.Equal(c.Reads, l) {
			t.Errorf("%q: %q; want %q", s, c.Reads, l)
		}
	}
}
