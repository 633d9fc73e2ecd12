package lower_test

import (
	"reflect"
	"slices"
	"strconv"
	"strings"
	"testing"

	"freshet/api"
	"freshet/flat"
	"freshet/lower"
	"freshet/parse"
	"freshet/plan"
)

// parts counts the Rels of a query, however deep.
func parts(r api.Rel) int {
	rels, _ := nodes(&r)
	return len(rels)
}

// side is how many columns stand side by side in a query, with so many outside of it, as chapter 17 has it.
func side(r api.Rel, outside int) int {
	most, own := outside+len(r.Cols), len(r.Cols)
	for i, kid := range r.Kids {
		more := outside
		if r.Lateral && i == 1 {
			more += len(r.Kids[0].Cols)
		}
		most = max(most, side(kid, more))
	}
	if len(r.Kids) == 1 {
		own = len(r.Kids[0].Cols)
	}
	exprs := r.Exprs
	for _, a := range r.Aggs {
		exprs = append(exprs[:len(exprs):len(exprs)], a.Args...)
	}
	for _, e := range exprs {
		most = max(most, sideOf(e, outside+own))
	}
	return most
}

func sideOf(e api.Expr, outside int) int {
	most := 0
	for _, kid := range e.Kids {
		most = max(most, sideOf(kid, outside))
	}
	for _, sub := range e.Subs {
		most = max(most, side(sub, outside))
	}
	return most
}

// wide are a w of 16 columns, c0, c1, .., an f of four, and an o of one, all of INTs.
func wide() []api.Schema {
	var l []api.Schema
	for _, s := range []api.Schema{{Name: "w", Cols: make([]api.Col, 16)}, {Name: "f", Cols: make([]api.Col, 4)}, {Name: "o", Cols: make([]api.Col, 1)}} {
		for i := range s.Cols {
			s.Cols[i] = api.Col{Name: "c" + strconv.Itoa(i), Type: api.Int, Null: true}
		}
		l = append(l, s)
	}
	return l
}

// wideTables have two different rows each, of which one has a NULL.
func wideTables() []api.Filled {
	var l []api.Filled
	for _, s := range wide() {
		var one, two api.Row
		for i := range s.Cols {
			one, two = append(one, integer(int64(i))), append(two, integer(int64(i/2)))
		}
		one[len(one)-1] = null
		l = append(l, table(s.Name, times(1, one...), times(2, two...)))
	}
	return l
}

// checkedWide is a typed query of those tables.
func checkedWide(t *testing.T, s string) api.Rel {
	t.Helper()
	tree, bad, at := parse.Parse(s)
	c, why := plan.Check(wide(), tree)
	if bad != api.OK || why != api.OK {
		t.Fatalf("%s: error %d at %d, %d", s, bad, at, why)
	}
	return c.Rel
}

// each writes a text with all numbers from one up to another one in the place of its #, the one ahead in the place of its %, with commas between.
func each(from, to int, s string) string {
	return between(from, to, s, ", ")
}

func between(from, to int, s, mark string) string {
	var l []string
	for i := from; i <= to; i++ {
		l = append(l, strings.NewReplacer("#", strconv.Itoa(i), "%", strconv.Itoa(i-1)).Replace(s))
	}
	return strings.Join(l, mark)
}

// values are all columns of tables w that are named x0, x1, ..
func values(to int) string {
	return each(0, to, "x#.c0, x#.c1, x#.c2, x#.c3, x#.c4, x#.c5, x#.c6, x#.c7, x#.c8, x#.c9, x#.c10, x#.c11, x#.c12, x#.c13, x#.c14, x#.c15")
}

// nest writes texts, each in the place of the @ of the one ahead.
func nest(from, to int, s, last string) string {
	for i := to; i >= from; i-- {
		last = strings.ReplaceAll(strings.ReplaceAll(s, "#", strconv.Itoa(i)), "@", last)
	}
	return last
}

// greatQueries are as large as a query may be that is not large, or nearly so.
func greatQueries() []string {
	six, all := each(0, 5, "w x#"), values(5)
	return []string{
		"SELECT coalesce(" + all + ", x6.c0, x6.c1, x6.c2, x6.c3) FROM " + six + ", f x6 WHERE x0.c1 = x1.c1",
		"SELECT x0.c1 + x1.c1 + x6.c1 FROM w x0 LEFT JOIN w x1 ON x0.c15 = x1.c0 LEFT JOIN w x2 ON x1.c2 = x2.c1 LEFT JOIN w x3 ON coalesce(" + values(3) + ") > 0, w x4 LEFT JOIN w x5 ON 1 / x4.c1 = 1, f x6",
		"SELECT 1 FROM " + six + " WHERE EXISTS (SELECT 1 FROM f y WHERE coalesce(" + all + ") = y.c1)",
		"SELECT x0.c15 FROM " + six + " WHERE coalesce(x0.c15, " + all + ") IN (SELECT coalesce(y.c3, y.c0, " + all + ") FROM f y)",
		"SELECT x0.c15, (SELECT sum(y.c1 + coalesce(" + all + ")) FROM f y WHERE y.c0 = x5.c0) FROM " + six,
		"SELECT x0.c1, z.n FROM " + each(0, 4, "w x#") + ", LATERAL (SELECT coalesce(y.c15, " + values(4) + ") AS n FROM w y WHERE y.c1 = x1.c1) z",
		"SELECT 1 FROM w x0 JOIN " + between(1, 4, "w x# ON TRUE", " JOIN ") + " LEFT JOIN LATERAL (SELECT coalesce(y.c15, " + values(3) + ") AS n FROM w y WHERE y.c1 = x4.c1) z ON z.n = x4.c2",
		"SELECT count(*), max(x5.c1) FROM " + six + " GROUP BY " + values(5) + " HAVING sum(x5.c1) > 1 OR min(x4.c2) > 1",
		"SELECT x0.c1 FROM " + six + " GROUP BY " + each(0, 15, "x0.c#") + " HAVING coalesce(" + each(0, 15, "min(x1.c#) = max(x2.c#), sum(x3.c# + x4.c#) > 0, max(x5.c# / 2) > 3") + ", count(*) > 9)",
		"SELECT DISTINCT " + each(0, 15, "x1.c#") + " FROM w x0, w x1, w x2, w x3, w x4, w x5, f y WHERE x0.c1 = x1.c1",
		nest(0, 3, "SELECT x#.c0 FROM o x#, o z# WHERE EXISTS (SELECT 1 FROM o y WHERE y.c0 = x#.c0) OR x#.c0 IN (@)", "SELECT coalesce("+each(0, 3, "x#.c0 + z#.c0")+")"),
		nest(0, 3, "SELECT x#.c0 + (@) FROM o x# WHERE x#.c0 IS NOT NULL AND EXISTS (SELECT 1 FROM o y WHERE y.c0 = x#.c0) ORDER BY c1 LIMIT 1", "SELECT coalesce("+each(0, 3, "x#.c0 / 2")+")"),
		"SELECT coalesce(" + each(1, 19, "x.c0 + # IN (SELECT # * c0 FROM o)") + ") FROM o x",
		"SELECT coalesce(" + each(1, 12, "EXISTS (SELECT # / (x.c0 + 2) FROM o y WHERE y.c0 = # + x.c0 - 1)") + ") FROM (SELECT 1 AS c0) x",
		"SELECT coalesce(" + each(1, 9, "(SELECT max(#) FROM o y WHERE y.c0 = x.c0 + 5)") + ") FROM o x",
		"SELECT 1 FROM o x0 LEFT JOIN " + between(1, 19, "o x# ON x0.c0 = x#.c0", " LEFT JOIN "),
		"SELECT x12.n FROM (SELECT 0 AS n) x0, " + each(1, 12, "LATERAL (SELECT 1 + x%.n AS n) x#") + " WHERE x12.n = x11.n + 1",
		between(1, 13, "SELECT #", " UNION ALL "), between(1, 9, "SELECT # / 2", " UNION "), between(1, 8, "SELECT 9 / #", " EXCEPT "), between(1, 13, "SELECT 7 - # / #", " INTERSECT ALL "),
		nest(1, 3, "(SELECT # UNION ALL @) EXCEPT ALL (SELECT # + 1 INTERSECT SELECT 3)", "SELECT 9"),
	}
}

// P10.1: a query that is not large has a plan, however many parts and columns it has.
func TestGreatQueries(t *testing.T) {
	mostParts, mostSide := 0, 0
	for _, s := range greatQueries() {
		r := checkedWide(t, s)
		n, columns := parts(r), side(r, 0)
		if n > api.MaxParts || columns > api.MaxSide {
			t.Errorf("%s: %d Rels, %d columns", s, n, columns)
		}
		mostParts, mostSide = max(mostParts, n), max(mostSide, columns)
		mustMakeTheSame(t, s, wideTables(), r, lowered(t, s, r))
	}
	if mostParts != api.MaxParts || mostSide != api.MaxSide {
		t.Errorf("%d Rels, %d columns at most", mostParts, mostSide)
	}
}

// greaterQueries are large, and have a plan nevertheless.
func greaterQueries() []string {
	return []string{
		"SELECT 1 FROM " + each(1, 150, "w x#"),
		"SELECT (SELECT 1 FROM " + each(1, 150, "w y#") + " WHERE y1.c1 = x.c1 LIMIT 1) FROM w x",
		"SELECT count(*) FROM " + each(0, 29, "w x#") + " WHERE x0.c1 = x29.c2 AND coalesce(" + values(7) + ") > 0",
		"SELECT x0.c1 FROM " + each(0, 69, "w x#") + " WHERE EXISTS (SELECT 1 FROM w y WHERE coalesce(y.c15, " + values(6) + ") = x69.c1)",
		"SELECT coalesce(" + each(1, 48, "EXISTS (SELECT 1 FROM o y WHERE y.c0 = x.c0)") + ") FROM o x",
		"SELECT 1 FROM " + each(1, 60, "o x# LEFT JOIN o y# ON x#.c0 = y#.c0"),
		"SELECT x40.n FROM (SELECT 0 AS n) x0, " + each(1, 40, "LATERAL (SELECT 1 + x%.n AS n) x#"),
	}
}

// P10.1: a large query has one, too, as long as it has not too many nodes, nor columns that are asked for.
func TestGreaterQueries(t *testing.T) {
	var one []api.Filled
	for _, f := range wideTables() {
		one = append(one, table(f.Name, f.Rows[1]))
	}
	for _, s := range greaterQueries() {
		r := checkedWide(t, s)
		if parts(r) <= api.MaxParts && side(r, 0) <= api.MaxSide {
			t.Errorf("%s: not large", s)
		}
		mustMakeTheSame(t, s, one, r, lowered(t, s, r))
	}
}

// P10.1: as many sources as a tree can have.
func TestManySources(t *testing.T) {
	var from []api.Ast
	for i := range api.MaxTokens - 8 {
		from = append(from, api.Ast{Kind: api.ATable, Name: "w", Alias: "x" + strconv.Itoa(i)})
	}
	item := node(api.AItem, lit(integer(1)))
	c, bad := plan.Check(wide(), node(api.ASelect, node(api.AItems, item), node(api.AFrom, from...), node(api.AWhere), node(api.AGroup), node(api.AHaving)))
	if bad != api.OK {
		t.Fatalf("error %d", bad)
	}
	f := lowered(t, "many sources", c.Rel)
	got, bad := flat.Eval([]api.Filled{table("w", times(1, make(api.Row, 16)...))}, f)
	if bad != api.OK || !slices.Equal(show(got), []string{"1 (1)"}) {
		t.Errorf("%v, error %d", show(got), bad)
	}
}

// P10.1, R2: ErrLong, with nothing beside it, of a query of more tables than a plan has nodes, or of wider ones than a plan may have.
func TestTooLong(t *testing.T) {
	get := func(i int) api.Rel { return api.Rel{Kind: api.RGet, Name: "t" + strconv.Itoa(i), Cols: wide()[2].Cols} }
	var union func(from, n int) api.Rel
	union = func(from, n int) api.Rel {
		if n == 1 {
			return get(from)
		}
		return api.Rel{Kind: api.RUnion, Cols: wide()[2].Cols, Kids: []api.Rel{union(from, n/2), union(from+n/2, n-n/2)}}
	}
	var exprs []api.Expr
	for range api.MaxPlan + 1 {
		exprs = append(exprs, api.Expr{Kind: api.ELit, Type: api.Bool, Lit: yes})
	}
	broad := func(n int) api.Rel { return api.Rel{Kind: api.RGet, Name: "b", Cols: make([]api.Col, n)} }
	over := func(kind int, kids ...api.Rel) api.Rel {
		return api.Rel{Kind: kind, Cols: kids[0].Cols, Kids: kids, Exprs: exprs[:1]}
	}
	for i, r := range []api.Rel{
		union(0, api.MaxPlan+1), union(0, api.MaxPlan), union(0, api.MaxPlan/2+1),
		{Kind: api.RMap, Exprs: exprs, Cols: make([]api.Col, 1), Kids: []api.Rel{{Kind: api.ROne}}}, {Kind: api.RGroup, Aggs: make([]api.Agg, api.MaxPlan+1), Kids: []api.Rel{{Kind: api.ROne}}},
		{Kind: api.RTop, Nums: make([]int, api.MaxPlan+1), Desc: make([]bool, api.MaxPlan+1), Kids: []api.Rel{{Kind: api.ROne}}},
		broad(api.MaxWidth + 1), over(api.RDistinct, broad(api.MaxWidth+1)), over(api.RFilter, broad(api.MaxWidth+1)), over(api.RExcept, broad(api.MaxWidth+1), broad(api.MaxWidth+1)),
	} {
		if f, bad := lower.Lower(r); bad != api.ErrLong || !reflect.DeepEqual(f, api.Flat{}) {
			t.Errorf("%d: %s, error %d", i, describe(f), bad)
		}
	}
	for i, r := range []api.Rel{union(0, api.MaxPlan/2), broad(api.MaxWidth), over(api.RDistinct, broad(api.MaxWidth)), over(api.RExcept, broad(api.MaxWidth), broad(api.MaxWidth)), over(api.RFilter, broad(api.MaxWidth))} {
		lowered(t, strconv.Itoa(i), r)
	}
}
