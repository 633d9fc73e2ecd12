package plan_test

import (
	"reflect"
	"strconv"
	"strings"
	"testing"

	"freshet/api"
	"freshet/plan"
)

// is asks that a statement is checked as just this.
func is(t *testing.T, s string, want api.Checked) {
	t.Helper()
	if got := checked(t, s); !reflect.DeepEqual(got, want) {
		t.Errorf("%q:\n%+v; want\n%+v", s, got, want)
	}
}

func theCols(name string) []api.Col {
	for _, s := range schemas() {
		if s.Name == name {
			return s.Cols
		}
	}
	return nil
}

func get(name string) api.Rel { return api.Rel{Kind: api.RGet, Name: name, Cols: theCols(name)} }

// P6.1: ACreateTable.
func TestCreateTable(t *testing.T) {
	is(t, "CREATE TABLE x (a INT, b TEXT NOT NULL, t BOOL, c BYTES NOT NULL, d DEC)", api.Checked{Kind: api.ACreateTable, Name: "x", Cols: []api.Col{{Name: "a", Type: api.Int, Null: true}, {Name: "b", Type: api.Text}, {Name: "t", Type: api.Bool, Null: true}, {Name: "c", Type: api.Bytes}, {Name: "d", Type: api.Dec, Null: true}}})
	refuses(t, api.ErrTwice, "CREATE TABLE t (x INT)", "CREATE TABLE w (x INT)", "CREATE TABLE x (a INT, a INT)", "CREATE TABLE x (a INT, b DEC, c TEXT, a TEXT)")
	columns := func(n int) string {
		return joined(many(n), ", ", func(c api.Col) string { return c.Name + " INT" })
	}
	if c := checked(t, "CREATE TABLE x ("+columns(api.MaxCols)+")"); len(c.Cols) != api.MaxCols || c.Cols[15].Name != "c16" {
		t.Errorf("%v", c)
	}
	refuses(t, api.ErrLong, "CREATE TABLE x ("+columns(api.MaxCols+1)+")", "CREATE TABLE x (c1 INT, "+columns(api.MaxCols)+")", "CREATE TABLE x (a INT"+strings.Repeat(", a INT", 300)+")")
	refuses(t, api.ErrTwice, "CREATE TABLE t (a INT"+strings.Repeat(", a INT", 300)+")")
}

// P6.1: ACreateView.
func TestCreateView(t *testing.T) {
	c := checked(t, "CREATE VIEW x AS SELECT a AS c, b FROM t")
	if c.Kind != api.ACreateView || c.Name != "x" || show(c.Rel) != "map(0.0:INT, 0.1:TEXT?)[c INT, b TEXT?]{get t[a INT, b TEXT?]}" {
		t.Errorf("%v", c)
	}
	want := checked(t, "SELECT a AS c, b FROM t")
	want.Kind, want.Name = c.Kind, c.Name
	is(t, "CREATE VIEW x AS SELECT a AS c, b FROM t", want)
	refuses(t, api.ErrTwice, "CREATE VIEW t AS SELECT 1", "CREATE VIEW t AS SELECT x", "CREATE VIEW x AS SELECT a, 1 AS a FROM t", "CREATE VIEW x AS SELECT a, b, a FROM t", "CREATE VIEW x AS SELECT * FROM t, u", "CREATE VIEW x AS SELECT 1 AS c2, 2", "CREATE VIEW x AS SELECT 1 AS a, 2 AS a UNION SELECT 1, 2 AS b")
	refuses(t, api.ErrColumn, "CREATE VIEW x AS SELECT y", "CREATE VIEW x AS SELECT a, a, c FROM t")
	refuses(t, api.ErrTable, "CREATE VIEW x AS SELECT 1 FROM x")
	checked(t, "CREATE VIEW x AS SELECT a, b, a AS c FROM t")
	checked(t, "CREATE VIEW x AS SELECT 1, 2 UNION SELECT 1 AS a, 2 AS a")
	checked(t, "SELECT a, b, a FROM t")
}

// P6.1: ACreateIndex.
func TestCreateIndex(t *testing.T) {
	is(t, "CREATE INDEX x ON w (s, p, r)", api.Checked{Kind: api.ACreateIndex, Name: "x", Of: "w", Places: []int{3, 0, 2}, Reads: []string{"w"}})
	is(t, "CREATE INDEX a ON t (a)", api.Checked{Kind: api.ACreateIndex, Name: "a", Of: "t", Places: []int{0}, Reads: []string{"t"}})
	refuses(t, api.ErrTwice, "CREATE INDEX t ON t (a)", "CREATE INDEX u ON nosuch (a)", "CREATE INDEX x ON t (a, a)", "CREATE INDEX x ON w (p, q, r, q)", "CREATE INDEX x ON t (b, b, x)")
	refuses(t, api.ErrTable, "CREATE INDEX x ON x (a)", "CREATE INDEX x ON nosuch (a, a)")
	refuses(t, api.ErrColumn, "CREATE INDEX x ON t (c)", "CREATE INDEX x ON t (a, t)", "CREATE INDEX x ON t (c, a, a)", "CREATE INDEX x ON w (a)")
}

// P6.1: ADrop.
func TestDrop(t *testing.T) {
	is(t, "DROP TABLE t", api.Checked{Kind: api.ADrop, Num: 1, Name: "t"})
	is(t, "DROP VIEW u", api.Checked{Kind: api.ADrop, Num: 2, Name: "u"})
	is(t, "DROP INDEX t", api.Checked{Kind: api.ADrop, Num: 3, Name: "t"})
	is(t, "DROP INDEX x", api.Checked{Kind: api.ADrop, Num: 3, Name: "x"})
	refuses(t, api.ErrTable, "DROP TABLE x", "DROP VIEW x", "DROP VIEW a")
}

func whole(n int64) api.Datum { return api.Datum{Kind: api.Int, I: n} }

func decimal(n int64) api.Datum { return api.Datum{Kind: api.Dec, I: n} }

func text(s string) api.Datum { return api.Datum{Kind: api.Text, S: s} }

// P6.1: AInsert.
func TestInsert(t *testing.T) {
	rows := func(name string, rows ...api.Row) api.Checked {
		return api.Checked{Kind: api.AInsert, Name: name, Cols: theCols(name), Rows: rows, Reads: []string{name}}
	}
	is(t, "INSERT INTO t VALUES (1, 'a''b'), (-2, NULL), (1, '')", rows("t", api.Row{whole(1), text("a'b")}, api.Row{whole(-2), {}}, api.Row{whole(1), text("")}))
	is(t, "INSERT INTO u VALUES (1), (-1.5), (NULL), (0), (-922337203685477)", rows("u", api.Row{decimal(10000)}, api.Row{decimal(-15000)}, api.Row{{}}, api.Row{decimal(0)}, api.Row{decimal(-9223372036854770000)}))
	is(t, "INSERT INTO w VALUES (TRUE, x'00ff', NULL, 2)", rows("w", api.Row{{Kind: api.Bool, I: 1}, {Kind: api.Bytes, S: "\x00\xff"}, {}, decimal(20000)}))
	refuses(t, api.ErrTable, "INSERT INTO x VALUES (1)", "INSERT INTO a VALUES (1), (1, 2)")
	refuses(t, api.ErrColumns, "INSERT INTO t VALUES (1)", "INSERT INTO t VALUES (1, 'a', 2)", "INSERT INTO t VALUES (1, 'a'), (2)", "INSERT INTO t VALUES (NULL)", "INSERT INTO t VALUES ('a', 1, 1)")
	refuses(t, api.ErrNull, "INSERT INTO t VALUES (NULL, 'a')", "INSERT INTO t VALUES (1, 'a'), (NULL, NULL)", "INSERT INTO w VALUES (TRUE, x'', 1, NULL)", "INSERT INTO t VALUES (NULL, 1), (1)")
	refuses(t, api.ErrType, "INSERT INTO t VALUES ('a', 'a')", "INSERT INTO t VALUES (1, 2)", "INSERT INTO t VALUES (1.0, 'a')", "INSERT INTO t VALUES (1, x'00')", "INSERT INTO t VALUES (TRUE, 'a')", "INSERT INTO u VALUES ('1')", "INSERT INTO u VALUES (TRUE)", "INSERT INTO w VALUES (1, x'', 1, 1)", "INSERT INTO w VALUES (TRUE, 'a', 1, 1)", "INSERT INTO w VALUES (TRUE, x'', 1.0, 1)", "INSERT INTO w VALUES (TRUE, 'a', 1, NULL)")
	refuses(t, api.ErrEval, "INSERT INTO u VALUES (922337203685478)", "INSERT INTO u VALUES (-922337203685478)", "INSERT INTO u VALUES (1), (-9223372036854775808)", "INSERT INTO u VALUES (9223372036854775807), ('a')")
}

// P6.1: an insertion of MaxValues rows, and of more.
func TestInsertMany(t *testing.T) {
	insert := func(name, row string, n int) string {
		return "INSERT INTO " + name + " VALUES " + strings.TrimSuffix(strings.Repeat(row+", ", n), ", ")
	}
	c := checked(t, insert("u", "(1)", api.MaxValues))
	if len(c.Rows) != api.MaxValues {
		t.Errorf("%d rows", len(c.Rows))
	}
	for i, row := range c.Rows {
		if !reflect.DeepEqual(row, api.Row{decimal(10000)}) {
			t.Errorf("%d: %v", i, row)
		}
	}
	refuses(t, api.ErrLong, insert("u", "(1)", api.MaxValues+1), insert("u", "('a')", api.MaxValues+1), insert("t", "(NULL)", 200))
	refuses(t, api.ErrTable, insert("x", "(1)", api.MaxValues+1))
	refuses(t, api.ErrType, insert("u", "(1)", api.MaxValues-1)+", ('a')")
	refuses(t, api.ErrColumns, insert("u", "(1)", api.MaxValues-1)+", (1, 2)")
}

// P6.1: of what is wrong in rows the first one is told, row by row and value by value.
func TestInsertOrder(t *testing.T) {
	wrong := map[string]api.Errno{"(1)": api.ErrColumns, "(TRUE, x'', 1, 1, 1)": api.ErrColumns, "(NULL, 1, 'a', 'a')": api.ErrNull, "(1, NULL, 'a', 'a')": api.ErrType, "(TRUE, NULL, 'a', 'a')": api.ErrNull, "(TRUE, x'', 'a', NULL)": api.ErrType, "(TRUE, x'', NULL, 922337203685478)": api.ErrEval, "(TRUE, x'', 922337203685478, NULL)": api.ErrNull}
	for first, want := range wrong {
		refuses(t, want, "INSERT INTO w VALUES "+first, "INSERT INTO w VALUES (TRUE, x'00', 1, 1.5), "+first)
		for second := range wrong {
			refuses(t, want, "INSERT INTO w VALUES "+first+", "+second)
		}
	}
}

// P6.1: ADelete.
func TestDelete(t *testing.T) {
	is(t, "DELETE FROM t", api.Checked{Kind: api.ADelete, Name: "t", Cols: theCols("t"), Rel: get("t"), Reads: []string{"t"}})
	for s, want := range map[string]string{
		"DELETE FROM t WHERE b = 'a'":                                 "filter(=:BOOL?(0.1:TEXT?, 'a')){get t[a INT, b TEXT?]}",
		"DELETE FROM t WHERE t.a IS NULL":                             "filter(isnull:BOOL(0.0:INT)){get t[a INT, b TEXT?]}",
		"DELETE FROM t WHERE NULL":                                    "filter(NULL){get t[a INT, b TEXT?]}",
		"DELETE FROM w WHERE p":                                       "filter(0.0:BOOL){get w[p BOOL, q BYTES, r INT?, s DEC]}",
		"DELETE FROM t WHERE a IN (SELECT c1 FROM wide WHERE c2 = a)": "filter(in:BOOL?(0.0:INT){map(0.0:INT)[c1 INT]{filter(=:BOOL(0.1:INT, 1.0:INT)){get wide" + showCols(many(16)) + "}}}){get t[a INT, b TEXT?]}",
	} {
		c := checked(t, s)
		if c.Kind != api.ADelete || show(c.Rel) != want || !reflect.DeepEqual(c.Cols, theCols(c.Name)) {
			t.Errorf("%q:\n%s; want\n%s", s, show(c.Rel), want)
		}
		mustBeRight(t, s, c)
	}
	refuses(t, api.ErrTable, "DELETE FROM x", "DELETE FROM x WHERE y = 1", "DELETE FROM t WHERE EXISTS (SELECT 1 FROM x)")
	refuses(t, api.ErrColumn, "DELETE FROM t WHERE c = 1", "DELETE FROM t WHERE u.a = 1", "DELETE FROM t WHERE x.a = 1")
	refuses(t, api.ErrType, "DELETE FROM t WHERE a", "DELETE FROM t WHERE b", "DELETE FROM t WHERE a + 1", "DELETE FROM t WHERE a = 'a'")
	refuses(t, api.ErrAgg, "DELETE FROM t WHERE count(*) = 1", "DELETE FROM t WHERE max(a) = a", "DELETE FROM t WHERE a = sum(x)")
}

// P6.1: ASubscribe.
func TestSubscribe(t *testing.T) {
	is(t, "SUBSCRIBE t", api.Checked{Kind: api.ASubscribe, Name: "t", Cols: theCols("t"), Rel: get("t"), Reads: []string{"t"}})
	refuses(t, api.ErrTable, "SUBSCRIBE x", "SUBSCRIBE a")
}

// P6.1: queries: their tree's kind, no name, no number.
func TestQueries(t *testing.T) {
	for s, kind := range map[string]int{"SELECT a FROM t": api.ASelect, "SELECT a FROM t EXCEPT SELECT 1": api.ASet, "SELECT a FROM t LIMIT 3": api.ATop} {
		c := checked(t, s)
		want := api.Checked{Kind: kind, Cols: []api.Col{{Name: "a", Type: api.Int}}, Rel: c.Rel, Reads: []string{"t"}}
		if !reflect.DeepEqual(c, want) {
			t.Errorf("%q: %+v; want %+v", s, c, want)
		}
	}
}

// P6.1: without schemas there are no tables, and with one that of its name alone.
func TestOtherSchemas(t *testing.T) {
	for _, s := range []string{"SELECT 1 FROM t", "INSERT INTO t VALUES (1)", "DELETE FROM t", "SUBSCRIBE t", "DROP TABLE t", "DROP VIEW t", "CREATE INDEX x ON t (a)"} {
		refusesTree(t, s, nil, tree(t, s), api.ErrTable)
		refusesTree(t, s, []api.Schema{one("tt"), one("s"), one("_t")}, tree(t, s), api.ErrTable)
		if _, bad := plan.Check([]api.Schema{one("s"), one("t")}, tree(t, s)); bad != api.OK {
			t.Errorf("%q: error %d", s, bad)
		}
	}
	for i := range 20 {
		name := "t" + strconv.Itoa(i)
		s := "CREATE TABLE " + name + " (a INT)"
		refusesTree(t, s, []api.Schema{one("x"), one(name), one("y")}, tree(t, s), api.ErrTwice)
	}
}
