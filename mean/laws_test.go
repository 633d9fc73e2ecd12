package mean_test

import (
	"slices"
	"strings"
	"testing"

	"freshet/api"
	"freshet/mean"
	"freshet/parse"
	"freshet/plan"
	"freshet/row"
)

// checked is a typed query of its tree, and its text; false, if it is too deep or too long.
func checked(a api.Ast) (api.Rel, string, bool) {
	c, bad := plan.Check(manySchemas(), a)
	s, _ := parse.Print(a)
	return c.Rel, s, bad == api.OK
}

// someQuery is a typed query that may be, and its text.
func someQuery(seed uint64, depth int) (api.Rel, string, bool) {
	m := &maker{by: lot(seed)}
	return checked(m.query(m.kinds(1+m.by.IntN(3)), nil, nil, depth))
}

// counted are rows as a judge has them, counted.
func counted(l []api.Row) []string {
	slices.SortFunc(l, row.Compare)
	var all []api.Count
	for i, one := range l {
		if i > 0 && row.Compare(l[i-1], one) == 0 {
			all[len(all)-1].N++
		} else {
			all = append(all, times(1, one...))
		}
	}
	return show(all)
}

// P8.1, R6: of queries and tables as they come it is what the judge says; asked again it is the same.
func TestSomeQueries(t *testing.T) {
	verdicts, rels, exprs, filled := map[verdict]int{}, map[int]int{}, map[int]int{}, 0
	for seed := range uint64(8000) {
		r, s, is := someQuery(seed, 1+int(seed%6))
		if !is {
			continue
		}
		db := someTables(lot(seed + 1<<32))
		want, why := judged(db, r)
		verdicts[why]++
		if why == tooMuch {
			continue
		}
		for range 2 {
			got, bad := mean.Mean(db, r)
			if (bad == api.ErrEval) != (why == isError) || bad != api.OK && bad != api.ErrEval || !slices.Equal(show(got), counted(want)) {
				t.Fatalf("seed %d: %.2000s over %v: %.500s, error %d; want %.500s %s", seed, s, db, show(got), bad, counted(want), why)
			}
		}
		if len(want) > 0 {
			filled++
			count(r, rels, exprs)
		}
	}
	for kind := api.RGet; kind <= api.RTop; kind++ {
		if rels[kind] < 100 {
			t.Errorf("kind %d was met %d times", kind, rels[kind])
		}
	}
	for kind := api.ELit; kind <= api.EIn; kind++ {
		if exprs[kind] < 500 {
			t.Errorf("expressions of kind %d were met %d times", kind, exprs[kind])
		}
	}
	if filled < 2500 || verdicts[isError] < 500 || verdicts[tooMuch] > 200 {
		t.Errorf("%d with rows, %v", filled, verdicts)
	}
}

// count counts kinds of queries and of expressions.
func count(r api.Rel, rels, exprs map[int]int) {
	rels[r.Kind]++
	for _, kid := range r.Kids {
		count(kid, rels, exprs)
	}
	for _, e := range r.Exprs {
		countExpr(e, rels, exprs)
	}
}

func countExpr(e api.Expr, rels, exprs map[int]int) {
	exprs[e.Kind]++
	for _, sub := range e.Subs {
		count(sub, rels, exprs)
	}
	for _, kid := range e.Kids {
		countExpr(kid, rels, exprs)
	}
}

// someMeaning is what a query means over tables; false, if there is no query, if it is an error, or more than a judge looks at.
func someMeaning(r api.Rel, db []api.Filled) ([]api.Count, bool) {
	if r.Kind == 0 {
		return nil, false
	}
	if _, why := judged(db, r); why != "" {
		return nil, false
	}
	got, bad := mean.Mean(db, r)
	return got, bad == api.OK
}

// P8.3: each value is NULL, where it may be, or of its column's type; P8.1: what is meant is tidy, each row there more than 0 times.
func TestTypes(t *testing.T) {
	values := map[int]int{}
	for seed := range uint64(5000) {
		r, s, is := someQuery(seed+1<<33, 1+int(seed%5))
		if !is {
			continue
		}
		db := someTables(lot(seed + 1<<34))
		got, is := someMeaning(r, db)
		for i, c := range got {
			if i > 0 && row.Compare(got[i-1].Row, c.Row) >= 0 || c.N <= 0 || len(c.Row) != len(r.Cols) {
				t.Fatalf("%.2000s over %v: %.500s", s, db, show(got))
			}
			for place, d := range c.Row {
				values[d.Kind]++
				if d.Kind != r.Cols[place].Type && (d.Kind != api.Null || !r.Cols[place].Null) {
					t.Fatalf("%.2000s over %v: %.500s; its columns are %v", s, db, show(got), r.Cols)
				}
			}
		}
	}
	for kind := api.Null; kind <= api.Bytes; kind++ {
		if values[kind] < 300 {
			t.Errorf("values of kind %d were met %d times", kind, values[kind])
		}
	}
}

// P8.2: what a query means hangs on its tables' rows alone: not on how they are written down, nor on other tables.
func TestTablesAlone(t *testing.T) {
	found := 0
	for seed := range uint64(2000) {
		r, s, is := someQuery(seed+1<<35, 1+int(seed%5))
		db := someTables(lot(seed + 1<<36))
		want, here := someMeaning(r, db)
		if !is || !here {
			continue
		}
		by := lot(seed + 1<<37)
		other := []api.Filled{table("x", times(1, yes)), table("")}
		for _, f := range db {
			var rows []api.Count
			for _, c := range f.Rows {
				rows = append(rows, times(c.N-2, c.Row...), times(2, c.Row...), times(pick[int64](by, 0, -1), text("none")))
			}
			by.Shuffle(len(rows), func(i, k int) { rows[i], rows[k] = rows[k], rows[i] })
			other = append(other, table(f.Name, rows...))
		}
		by.Shuffle(len(other), func(i, k int) { other[i], other[k] = other[k], other[i] })
		other = append(other, table("t", times(1, integer(9), text("z"))), table("u"), table("w"))
		got, bad := mean.Mean(other, r)
		if bad != api.OK || !slices.Equal(show(got), show(want)) {
			t.Fatalf("%.2000s over %v: %.500s, error %d; want %.500s", s, other, show(got), bad, show(want))
		}
		if len(got) > 0 {
			found++
		}
	}
	if found < 300 {
		t.Errorf("%d with rows", found)
	}
}

// P8.2: union does not hang on the order of its sides; DISTINCT twice is once, and each row once.
func TestUnionAndDistinct(t *testing.T) {
	found := 0
	for seed := range uint64(2000) {
		m := &maker{by: lot(seed + 1<<38)}
		kinds := m.kinds(1 + m.by.IntN(2))
		a, _, isA := checked(m.query(kinds, nil, nil, 1+int(seed%4)))
		b, _, isB := checked(m.query(kinds, nil, nil, 1+int(seed%4)))
		db := someTables(m.by)
		inA, hereA := someMeaning(a, db)
		inB, hereB := someMeaning(b, db)
		if !isA || !isB || !hereA || !hereB {
			continue
		}
		of := func(kind int, kids ...api.Rel) []string {
			got, bad := mean.Mean(db, api.Rel{Kind: kind, Cols: a.Cols, Kids: kids})
			if bad != api.OK {
				t.Fatalf("seed %d: error %d", seed, bad)
			}
			return show(got)
		}
		once := api.Rel{Kind: api.RDistinct, Cols: a.Cols, Kids: []api.Rel{a}}
		if !slices.Equal(of(api.RUnion, a, b), of(api.RUnion, b, a)) || !slices.Equal(of(api.RDistinct, a), of(api.RDistinct, once)) {
			t.Fatalf("seed %d: %.500s and %.500s", seed, show(inA), show(inB))
		}
		for i, s := range of(api.RDistinct, a) {
			if s != "1 "+row.Print(inA[i].Row) {
				t.Fatalf("seed %d: %.500s: of these once %s", seed, show(inA), s)
			}
		}
		if len(inA) > 0 && len(inB) > 0 {
			found++
		}
	}
	if found < 200 {
		t.Errorf("%d with rows", found)
	}
}

// sub is a query as a source of a name, whose columns are then n0, n1, ..
func sub(alias string, a api.Ast, kinds []int) (api.Ast, []col) {
	var cols []col
	for i, name := range namesOf(kinds) {
		cols = append(cols, col{alias, name, kinds[i], false})
	}
	return api.Ast{Kind: api.ASub, Alias: alias, Kids: []api.Ast{a}}, cols
}

// all is a SELECT of all columns of a source, where conditions are true.
func all(from api.Ast, where ...api.Ast) api.Ast {
	return node(api.ASelect, node(api.AItems, node(api.AStar)), node(api.AFrom, from), node(api.AWhere, where...), node(api.AGroup), node(api.AHaving))
}

// P8.2: filters one behind the other can change places, if none of them is an error.
func TestFiltersChangePlaces(t *testing.T) {
	found := 0
	for seed := range uint64(3000) {
		m := &maker{by: lot(seed + 1<<39)}
		kinds := m.kinds(2)
		of, cols := sub("s", m.query(kinds, namesOf(kinds), nil, 1+int(seed%3)), kinds)
		one, two := m.condition([][]col{cols}, 3, nil), m.condition([][]col{cols}, 3, nil)
		var got [][]api.Count
		for _, order := range [][2]api.Ast{{one, two}, {two, one}} {
			inner, _ := sub("s", all(of, order[0]), kinds)
			r, _, is := checked(all(inner, order[1]))
			if l, here := someMeaning(r, someTables(lot(seed))); is && here {
				got = append(got, l)
			}
		}
		if len(got) < 2 {
			continue
		}
		if !slices.Equal(show(got[0]), show(got[1])) {
			t.Fatalf("seed %d: %.500s; %.500s", seed, show(got[0]), show(got[1]))
		}
		if len(got[0]) > 0 {
			found++
		}
	}
	if found < 300 {
		t.Errorf("%d with rows", found)
	}
}

// P8.2: of a LEFT JOIN no row of the left side is lost.
func TestLeftRowsStay(t *testing.T) {
	found, alone := 0, 0
	for seed := range uint64(3000) {
		m := &maker{by: lot(seed + 1<<40)}
		kinds := m.kinds(2)
		left, cols := sub("s", m.query(kinds, namesOf(kinds), nil, 1+int(seed%3)), kinds)
		right, more := sub("r", m.query(kinds, namesOf(kinds), nil, 1+int(seed%3)), kinds)
		right.Flag = chance(m.by, 2)
		on := m.condition([][]col{slices.Concat(cols, more)}, 2, nil)
		join := api.Ast{Kind: api.AJoin, Num: 2, Kids: []api.Ast{left, right, on}}
		db := someTables(m.by)
		r, s, is := checked(all(join))
		side, _, _ := checked(all(left))
		got, here := someMeaning(r, db)
		want, _ := someMeaning(side, db)
		if !is || !here {
			continue
		}
		for _, c := range want {
			n := int64(0)
			for _, both := range got {
				if row.Compare(both.Row[:len(kinds)], c.Row) == 0 {
					n += both.N
				}
				if strings.HasSuffix(row.Print(both.Row), "NULL, NULL)") {
					alone++
				}
			}
			if n < c.N {
				t.Fatalf("%.2000s: %.500s; the left side has %.500s", s, show(got), show(want))
			}
			found++
		}
	}
	if found < 1000 || alone < 200 {
		t.Errorf("%d left rows, %d times one that found none", found, alone)
	}
}
