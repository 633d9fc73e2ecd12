package mean_test

import (
	"fmt"
	"math/rand/v2"
	"slices"
	"strconv"
	"testing"

	"freshet/api"
	"freshet/mean"
	"freshet/parse"
	"freshet/plan"
	"freshet/row"
)

var (
	null = api.Datum{}
	yes  = api.Datum{Kind: api.Bool, I: 1}
	no   = api.Datum{Kind: api.Bool}
)

func integer(n int64) api.Datum { return api.Datum{Kind: api.Int, I: n} }

func decimal(n int64) api.Datum { return api.Datum{Kind: api.Dec, I: n} }

func text(s string) api.Datum { return api.Datum{Kind: api.Text, S: s} }

func octets(s string) api.Datum { return api.Datum{Kind: api.Bytes, S: s} }

// times is a row that is there n times.
func times(n int64, values ...api.Datum) api.Count { return api.Count{Row: values, N: n} }

// table is one with rows.
func table(name string, rows ...api.Count) api.Filled { return api.Filled{Name: name, Rows: rows} }

// schemas are t, as the chapter has it, a table e without rows, an n of one column, and a v with columns of all types.
func schemas() []api.Schema {
	col := func(name string, kind int) api.Col { return api.Col{Name: name, Type: kind, Null: true} }
	return []api.Schema{
		{Name: "t", Cols: []api.Col{col("a", api.Int), col("b", api.Int)}},
		{Name: "e", Cols: []api.Col{col("a", api.Int), col("b", api.Int)}},
		{Name: "n", Cols: []api.Col{{Name: "a", Type: api.Int}}},
		{Name: "v", Cols: []api.Col{col("p", api.Bool), col("i", api.Int), col("d", api.Dec), col("s", api.Text), col("y", api.Bytes)}},
	}
}

// database has those tables' rows.
func database() []api.Filled {
	return []api.Filled{
		table("t", times(2, integer(1), integer(2)), times(1, integer(2), null)),
		table("e"),
		table("n", times(1, integer(3)), times(1, integer(1)), times(1, integer(2))),
		table("v",
			times(1, yes, integer(7), decimal(15000), text("a"), octets("\x00")),
			times(3, no, integer(-7), decimal(-5000), text("aß"), octets("")),
			times(1, null, null, null, null, null)),
	}
}

// query is a typed query of its text.
func query(t *testing.T, s string) api.Rel {
	t.Helper()
	tree, bad, at := parse.Parse(s)
	if bad != api.OK {
		t.Fatalf("%s: error %d at %d", s, bad, at)
	}
	c, bad := plan.Check(schemas(), tree)
	if bad != api.OK {
		t.Fatalf("%s: error %d", s, bad)
	}
	return c.Rel
}

// show writes counted rows: how often, and the row.
func show(l []api.Count) []string {
	var texts []string
	for _, c := range l {
		texts = append(texts, strconv.FormatInt(c.N, 10)+" "+row.Print(c.Row))
	}
	return texts
}

// means asks that a query over the tables means just these rows, in this order.
func means(t *testing.T, s string, want ...string) {
	t.Helper()
	meansIn(t, database(), s, want...)
}

func meansIn(t *testing.T, db []api.Filled, s string, want ...string) {
	t.Helper()
	got, bad := mean.Mean(db, query(t, s))
	if bad != api.OK || !slices.Equal(show(got), want) {
		t.Errorf("%.300s: %.300s, error %d; want %.300s", s, fmt.Sprint(show(got)), bad, fmt.Sprint(want))
	}
}

// fails asks that queries over the tables are an error, with nothing beside it.
func fails(t *testing.T, l ...string) {
	t.Helper()
	for _, s := range l {
		failsIn(t, database(), s)
	}
}

func failsIn(t *testing.T, db []api.Filled, s string) {
	t.Helper()
	if got, bad := mean.Mean(db, query(t, s)); bad != api.ErrEval || len(got) != 0 {
		t.Errorf("%.300s: %.300s, error %d; want error %d", s, fmt.Sprint(show(got)), bad, api.ErrEval)
	}
}

// lot draws numbers, the same ones at each run.
func lot(seed uint64) *rand.Rand { return rand.New(rand.NewPCG(8, seed)) }

func chance(by *rand.Rand, n int) bool { return by.IntN(n) == 0 }

func pick[T any](by *rand.Rand, l ...T) T { return l[by.IntN(len(l))] }
