package lower_test

import (
	"fmt"
	"math/rand/v2"
	"slices"
	"strconv"
	"testing"

	"freshet/api"
	"freshet/flat"
	"freshet/lower"
	"freshet/mean"
	"freshet/parse"
	"freshet/plan"
	"freshet/row"
)

var (
	null = api.Datum{}
	yes  = api.Datum{Kind: api.Bool, I: 1}
	no   = api.Datum{Kind: api.Bool}
)

func integer(n int64) api.Datum { return api.Datum{Kind: api.Int, I: n} }

func decimal(n int64) api.Datum { return api.Datum{Kind: api.Dec, I: n} }

func text(s string) api.Datum { return api.Datum{Kind: api.Text, S: s} }

func octets(s string) api.Datum { return api.Datum{Kind: api.Bytes, S: s} }

// times is a row that is there n times.
func times(n int64, values ...api.Datum) api.Count { return api.Count{Row: values, N: n} }

// table is one with rows.
func table(name string, rows ...api.Count) api.Filled { return api.Filled{Name: name, Rows: rows} }

// schemas are t, as chapter 8 has it, a table e without rows, an n of one column, and a v with columns of all types.
func schemas() []api.Schema {
	col := func(name string, kind int) api.Col { return api.Col{Name: name, Type: kind, Null: true} }
	return []api.Schema{
		{Name: "t", Cols: []api.Col{col("a", api.Int), col("b", api.Int)}},
		{Name: "e", Cols: []api.Col{col("a", api.Int), col("b", api.Int)}},
		{Name: "n", Cols: []api.Col{{Name: "a", Type: api.Int}}},
		{Name: "v", Cols: []api.Col{col("p", api.Bool), col("i", api.Int), col("d", api.Dec), col("s", api.Text), col("y", api.Bytes)}},
	}
}

// database has those tables' rows.
func database() []api.Filled {
	return []api.Filled{
		table("t", times(2, integer(1), integer(2)), times(1, integer(2), null)),
		table("e"),
		table("n", times(1, integer(3)), times(1, integer(1)), times(1, integer(2))),
		table("v",
			times(1, yes, integer(7), decimal(15000), text("a"), octets("\x00")),
			times(3, no, integer(-7), decimal(-5000), text("aß"), octets("")),
			times(1, null, null, null, null, null)),
	}
}

// query is a typed query of its text.
func query(t *testing.T, s string) api.Rel {
	t.Helper()
	tree, bad, at := parse.Parse(s)
	if bad != api.OK {
		t.Fatalf("%s: error %d at %d", s, bad, at)
	}
	c, bad := plan.Check(schemas(), tree)
	if bad != api.OK {
		t.Fatalf("%s: error %d", s, bad)
	}
	return c.Rel
}

// lowered is a query's plan, that must be as P10.1 asks, whatever it makes.
func lowered(t *testing.T, s string, r api.Rel) api.Flat {
	t.Helper()
	f, bad := lower.Lower(r)
	if bad != api.OK {
		t.Fatalf("%.2000s: error %d", s, bad)
	}
	if bad := flat.Right(f); bad != api.OK || flat.Width(f) != len(r.Cols) {
		t.Fatalf("%.2000s: error %d, %d columns of %d: %s", s, bad, flat.Width(f), len(r.Cols), describe(f))
	}
	want, got := map[string]int{}, map[string]int{}
	gets(r, want)
	reads(f, got)
	if fmt.Sprint(want) != fmt.Sprint(got) {
		t.Fatalf("%.2000s: the plan reads %v; want %v: %s", s, got, want, describe(f))
	}
	return f
}

// gets counts the widths of the tables that a query names.
func gets(r api.Rel, widths map[string]int) {
	rels, _ := nodes(&r)
	for _, one := range rels {
		if one.Kind == api.RGet {
			widths[one.Name] = len(one.Cols)
		}
	}
}

// reads counts those of the tables that a plan names: -1, if one has more than one.
func reads(f api.Flat, widths map[string]int) {
	if f.Kind == api.FGet && f.Name[0] != '$' {
		if width, met := widths[f.Name]; met && width != f.Width {
			widths[f.Name] = -1
		} else {
			widths[f.Name] = f.Width
		}
	}
	for _, kid := range f.Kids {
		reads(kid, widths)
	}
}

// show writes counted rows: how often, and the row.
func show(l []api.Count) []string {
	var texts []string
	for _, c := range l {
		texts = append(texts, strconv.FormatInt(c.N, 10)+" "+row.Print(c.Row))
	}
	return texts
}

// makes asks that a query's plan makes just these rows of the tables, in this order.
func makes(t *testing.T, s string, want ...string) {
	t.Helper()
	makesIn(t, database(), s, want...)
}

func makesIn(t *testing.T, db []api.Filled, s string, want ...string) {
	t.Helper()
	f := lowered(t, s, query(t, s))
	got, bad := flat.Eval(db, f)
	if bad != api.OK || !slices.Equal(show(got), want) {
		t.Errorf("%.300s: %.300s, error %d; want %.300s: %s", s, fmt.Sprint(show(got)), bad, fmt.Sprint(want), describe(f))
	}
}

// fails asks that queries' plans are an error over the tables.
func fails(t *testing.T, l ...string) {
	t.Helper()
	for _, s := range l {
		failsIn(t, database(), s)
	}
}

func failsIn(t *testing.T, db []api.Filled, s string) {
	t.Helper()
	f := lowered(t, s, query(t, s))
	if got, bad := flat.Eval(db, f); bad != api.ErrEval {
		t.Errorf("%.300s: %.300s, error %d; want error %d: %s", s, fmt.Sprint(show(got)), bad, api.ErrEval, describe(f))
	}
}

// mustMakeTheSame asks that a plan makes of tables what the query means, or is an error, as that is; it tells what it is.
func mustMakeTheSame(t *testing.T, s string, db []api.Filled, r api.Rel, f api.Flat) ([]api.Count, api.Errno) {
	t.Helper()
	want, why := mean.Mean(db, r)
	got, bad := flat.Eval(db, f)
	if bad != why || !slices.Equal(show(got), show(want)) {
		t.Fatalf("%.2000s over %.2000s: %.500s, error %d; want %.500s, error %d", s, fmt.Sprint(db), fmt.Sprint(show(got)), bad, fmt.Sprint(show(want)), why)
	}
	return got, bad
}

// lot draws numbers, the same ones at each run.
func lot(seed uint64) *rand.Rand { return rand.New(rand.NewPCG(10, seed)) }

func chance(by *rand.Rand, n int) bool { return by.IntN(n) == 0 }

func pick[T any](by *rand.Rand, l ...T) T { return l[by.IntN(len(l))] }
