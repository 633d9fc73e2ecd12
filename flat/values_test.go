package flat_test

import (
	"fmt"
	"math/rand/v2"
	"slices"
	"strconv"
	"testing"

	"freshet/api"
	"freshet/flat"
	"freshet/row"
)

var (
	null = api.Datum{}
	yes  = api.Datum{Kind: api.Bool, I: 1}
	no   = api.Datum{Kind: api.Bool}
)

func integer(n int64) api.Datum { return api.Datum{Kind: api.Int, I: n} }

func decimal(n int64) api.Datum { return api.Datum{Kind: api.Dec, I: n} }

func text(s string) api.Datum { return api.Datum{Kind: api.Text, S: s} }

func octets(s string) api.Datum { return api.Datum{Kind: api.Bytes, S: s} }

// wrongValues may not be.
func wrongValues() []api.Datum {
	return []api.Datum{{Kind: -1}, {Kind: 6}, {I: 1}, {S: "a"}, {Kind: api.Bool, I: 2}, {Kind: api.Int, S: "a"}, {Kind: api.Text, I: 1}, text("\xff"), octets(string(make([]byte, api.MaxText+1)))}
}

// times is a row that is there n times.
func times(n int64, values ...api.Datum) api.Count { return api.Count{Row: values, N: n} }

// numbers is a row of INTs, that is there n times.
func numbers(n int64, values ...int64) api.Count {
	r := api.Row{}
	for _, v := range values {
		r = append(r, integer(v))
	}
	return api.Count{Row: r, N: n}
}

// table is one with rows.
func table(name string, rows ...api.Count) api.Filled { return api.Filled{Name: name, Rows: rows} }

// database has t, as the chapter has it, a table e without rows, an n of one column, and a v with values of all kinds.
func database() []api.Filled {
	return []api.Filled{
		table("t", times(2, integer(1), integer(2)), times(1, integer(2), null)),
		table("e"),
		table("n", numbers(1, 3), numbers(1, 1), numbers(1, 2)),
		table("v",
			times(1, yes, integer(7), decimal(15000), text("a"), octets("\x00")),
			times(3, no, integer(-7), decimal(-5000), text("aß"), octets("")),
			times(1, null, null, null, null, null)),
	}
}

// over is a plan of a kind that has Kids.
func over(kind int, kids ...api.Flat) api.Flat { return api.Flat{Kind: kind, Kids: kids} }

func get(name string, width int) api.Flat {
	return api.Flat{Kind: api.FGet, Name: name, Width: width}
}

func listed(width int, rows ...api.Count) api.Flat {
	return api.Flat{Kind: api.FRows, Width: width, Rows: rows}
}

func mapped(kid api.Flat, l ...api.Expr) api.Flat {
	return api.Flat{Kind: api.FMap, Kids: []api.Flat{kid}, Exprs: l}
}

func filtered(kid api.Flat, l ...api.Expr) api.Flat {
	return api.Flat{Kind: api.FFilter, Kids: []api.Flat{kid}, Exprs: l}
}

func columns(kid api.Flat, places ...int) api.Flat {
	return api.Flat{Kind: api.FCols, Kids: []api.Flat{kid}, Cols: places}
}

func joined(a, b api.Flat, cols, more []int) api.Flat {
	return api.Flat{Kind: api.FJoin, Kids: []api.Flat{a, b}, Cols: cols, More: more}
}

func reduced(kid api.Flat, cols []int, l ...api.Fold) api.Flat {
	return api.Flat{Kind: api.FReduce, Kids: []api.Flat{kid}, Cols: cols, Aggs: l}
}

func top(kid api.Flat, limit int, cols, more []int, desc ...bool) api.Flat {
	return api.Flat{Kind: api.FTop, Kids: []api.Flat{kid}, Cols: cols, More: more, Desc: desc, Limit: limit}
}

func only(kid api.Flat, cols ...int) api.Flat {
	return api.Flat{Kind: api.FOne, Kids: []api.Flat{kid}, Cols: cols}
}

func let(mark string, first, second api.Flat) api.Flat {
	return api.Flat{Kind: api.FLet, Name: mark, Kids: []api.Flat{first, second}}
}

func lit(d api.Datum) api.Expr { return api.Expr{Kind: api.ELit, Lit: d} }

func col(n int) api.Expr { return api.Expr{Kind: api.ECol, Col: n} }

func call(op int, kids ...api.Expr) api.Expr {
	return api.Expr{Kind: api.ECall, Op: op, Kids: kids}
}

// wrong is an expression that has no value on any row.
func wrong() api.Expr { return call(api.OpDiv, lit(integer(1)), lit(integer(0))) }

// nested are so many ECalls within one another.
func nested(n int) api.Expr {
	e := lit(yes)
	for range n {
		e = call(api.OpNot, e)
	}
	return e
}

// chain is a plan with so many others of a kind over it.
func chain(f api.Flat, kind, n int) api.Flat {
	for range n {
		f = over(kind, f)
	}
	return f
}

// show writes counted rows: how often, and the row.
func show(l []api.Count) []string {
	var texts []string
	for _, c := range l {
		texts = append(texts, strconv.FormatInt(c.N, 10)+" "+row.Print(c.Row))
	}
	return texts
}

// makes asks that a plan makes of the tables just these rows, in this order.
func makes(t *testing.T, f api.Flat, want ...string) {
	t.Helper()
	makesIn(t, database(), f, want...)
}

func makesIn(t *testing.T, db []api.Filled, f api.Flat, want ...string) {
	t.Helper()
	got, bad := flat.Eval(db, f)
	if bad != api.OK || !slices.Equal(show(got), want) {
		t.Errorf("%s: %.300s, error %d; want %.300s", describe(f), fmt.Sprint(show(got)), bad, fmt.Sprint(want))
	}
}

// fails asks that plans over the tables are an error, with nothing beside it.
func fails(t *testing.T, l ...api.Flat) {
	t.Helper()
	for i, f := range l {
		if !refuses(database(), f, api.ErrEval) {
			got, bad := flat.Eval(database(), f)
			t.Errorf("%d: %s: %.300s, error %d; want error %d", i, describe(f), fmt.Sprint(show(got)), bad, api.ErrEval)
		}
	}
}

// refuses tells whether a plan over tables has an error, with nothing beside it.
func refuses(db []api.Filled, f api.Flat, want api.Errno) bool {
	got, bad := flat.Eval(db, f)
	return bad == want && len(got) == 0
}

// mayBe asks that a plan may be, of a width, and that it names tables.
func mayBe(t *testing.T, f api.Flat, width int, tables ...string) {
	t.Helper()
	if bad, got, reads := flat.Right(f), flat.Width(f), flat.Reads(f); bad != api.OK || got != width || !slices.Equal(reads, tables) {
		t.Errorf("%s: error %d, width %d, tables %.300q; want %d, %.300q", describe(f), bad, got, reads, width, tables)
	}
}

// mayNotBe asks that plans may not be.
func mayNotBe(t *testing.T, l ...api.Flat) {
	t.Helper()
	for i, f := range l {
		if bad, width, reads := flat.Right(f), flat.Width(f), flat.Reads(f); bad != api.ErrFlat || width != 0 || len(reads) != 0 || !refuses(database(), f, api.ErrFlat) {
			t.Errorf("%d: %s: error %d, width %d, tables %.300q", i, describe(f), bad, width, reads)
		}
	}
}

// lot draws numbers, the same ones at each run.
func lot(seed uint64) *rand.Rand { return rand.New(rand.NewPCG(9, seed)) }

func chance(by *rand.Rand, n int) bool { return by.IntN(n) == 0 }

func pick[T any](by *rand.Rand, l ...T) T { return l[by.IntN(len(l))] }
