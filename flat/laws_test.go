package flat_test

import (
	"slices"
	"testing"

	"freshet/api"
	"freshet/flat"
	"freshet/row"
	"freshet/zset"
)

// tablesIn are the tables that a plan names, as they are met, and how many plans of each kind there are.
func tablesIn(f api.Flat, names map[string]bool, kinds map[int]int) {
	kinds[f.Kind]++
	if f.Kind == api.FGet && f.Name[0] != '$' {
		names[f.Name] = true
	}
	for _, kid := range f.Kids {
		tablesIn(kid, names, kinds)
	}
}

// P9.1, P9.2, R6: of plans and tables as they come it is what the judge says; asked again it is the same.
func TestSomePlans(t *testing.T) {
	verdicts, kinds, filled, negative := map[verdict]int{}, map[int]int{}, 0, 0
	for seed := range uint64(30000) {
		f, width := somePlan(seed, 1+int(seed%7))
		names, met := map[string]bool{}, map[int]int{}
		tablesIn(f, names, met)
		var tables []string
		for name := range names {
			tables = append(tables, name)
		}
		slices.Sort(tables)
		mayBe(t, f, width, tables...)
		db := someTables(lot(seed + 1<<32))
		want, why := judged(db, f)
		verdicts[why]++
		if why == tooMuch {
			continue
		}
		for range 2 {
			got, bad := flat.Eval(db, f)
			if (bad == api.ErrEval) != (why == isError) || bad != api.OK && bad != api.ErrEval || !slices.Equal(show(got), show(want)) {
				t.Fatalf("seed %d: %s over %v: %.1000v, error %d; want %.1000v %s", seed, describe(f), db, show(got), bad, show(want), why)
			}
		}
		if len(want) > 0 {
			filled++
			for kind, n := range met {
				kinds[kind] += n
			}
		}
		if slices.ContainsFunc(want, func(c api.Count) bool { return c.N < 0 }) {
			negative++
		}
	}
	for kind := api.FGet; kind <= api.FLet; kind++ {
		if kinds[kind] < 1000 {
			t.Errorf("kind %d was met %d times", kind, kinds[kind])
		}
	}
	if filled < 8000 || negative < 1000 || verdicts[isError] < 2000 || verdicts[tooMuch] > 2000 {
		t.Errorf("%d with rows, %d with some below 0, %v", filled, negative, verdicts)
	}
}

// P9.2: what a plan makes is tidy, and each row has as many values as the plan is wide, that may be.
func TestAnswersAreTidy(t *testing.T) {
	for seed := range uint64(3000) {
		f, width := somePlan(seed+1<<33, 1+int(seed%6))
		db := someTables(lot(seed))
		if _, why := judged(db, f); why != "" {
			continue
		}
		got, _ := flat.Eval(db, f)
		tidy, bad := zset.Tidy(got...)
		if bad != api.OK || !slices.Equal(show(tidy), show(got)) {
			t.Fatalf("%s: %v", describe(f), show(got))
		}
		for _, c := range got {
			if _, bad := row.Encode(c.Row); bad != api.OK || len(c.Row) != width {
				t.Fatalf("%s: %v", describe(f), show(got))
			}
		}
	}
}

// together are two databases in one: each table has the rows of both.
func together(a, b []api.Filled) []api.Filled {
	l := slices.Clone(a)
	for i, t := range l {
		l[i].Rows = slices.Concat(t.Rows, b[i].Rows)
	}
	return l
}

// linearTables are tables of which no row is there below 0 times, or twice in the list.
func linearTables(seed uint64) []api.Filled {
	db := someTables(lot(seed))[:4]
	for i, t := range db {
		db[i].Rows, _ = zset.Positive(t.Rows)
	}
	return db
}

// without are tables of which all but one have no rows, or just that one has none.
func without(db []api.Filled, name string, that bool) []api.Filled {
	l := slices.Clone(db)
	for i, t := range l {
		if (t.Name == name) == that {
			l[i].Rows = nil
		}
	}
	return l
}

// made is what a plan makes of tables; false, if it is an error, or more than a judge looks at.
func made(db []api.Filled, f api.Flat) ([]api.Count, bool) {
	if _, why := judged(db, f); why != "" {
		return nil, false
	}
	got, bad := flat.Eval(db, f)
	return got, bad == api.OK
}

// sum is what counted rows are together.
func sum(l ...[]api.Count) []string {
	got, _ := zset.Tidy(slices.Concat(l...)...)
	return show(got)
}

// isLinear asks that a plan makes of two databases together what it makes of each, together: beside what it makes of a third one, that has what both have in common, and is there twice then.
func isLinear(t *testing.T, f api.Flat, both, a, b, common []api.Filled) bool {
	t.Helper()
	of, isOf := made(both, f)
	ofA, isA := made(a, f)
	ofB, isB := made(b, f)
	ofCommon, is := made(common, f)
	if !isOf || !isA || !isB || !is {
		return false
	}
	if got, want := sum(of, ofCommon), sum(ofA, ofB); !slices.Equal(got, want) {
		t.Fatalf("%s of %v and %v: %v; want %v", describe(f), a, b, got, want)
	}
	return len(of) > 0
}

// P9.4: plans of what is linear: of all tables at once, if there is no FJoin, else of each table by itself. What an FRows makes does not hang on the tables.
func TestLinear(t *testing.T) {
	straight, joins := 0, 0
	for seed := range uint64(20000) {
		m := &maker{by: lot(seed + 1<<34), most: 6, linear: true, once: map[string]int{}}
		f, _ := m.plan(1 + int(seed%6))
		names, kinds := map[string]bool{}, map[int]int{}
		tablesIn(f, names, kinds)
		a, b := linearTables(seed), linearTables(seed+1<<35)
		none := []api.Filled{table("a"), table("b"), table("c"), table("e")}
		if kinds[api.FJoin] == 0 {
			if isLinear(t, f, together(a, b), a, b, none) {
				straight++
			}
			if kinds[api.FRows] == 0 {
				if empty, bad := flat.Eval(none, f); bad != api.OK || len(empty) > 0 {
					t.Fatalf("%s of no rows: %v, error %d", describe(f), empty, bad)
				}
			}
			continue
		}
		for name := range names {
			rest := without(a, name, true)
			more := together(rest, without(b, name, false))
			if isLinear(t, f, together(a, without(b, name, false)), a, more, rest) {
				joins++
			}
		}
	}
	if straight < 2000 || joins < 2000 {
		t.Errorf("%d and %d with rows", straight, joins)
	}
}

// P9.4: FNegate twice is nothing; FPos and FDistinct twice are once.
func TestTwice(t *testing.T) {
	filled := 0
	for seed := range uint64(3000) {
		f, _ := somePlan(seed+1<<36, 1+int(seed%5))
		db := someTables(lot(seed))
		want, is := made(db, f)
		if !is {
			continue
		}
		if len(want) > 0 {
			filled++
		}
		makesIn(t, db, over(api.FNegate, over(api.FNegate, f)), show(want)...)
		makesIn(t, db, over(api.FUnion, f, over(api.FNegate, f)))
		for _, kind := range []int{api.FPos, api.FDistinct} {
			once, _ := flat.Eval(db, over(kind, f))
			makesIn(t, db, over(kind, over(kind, f)), show(once)...)
		}
	}
	if filled < 800 {
		t.Errorf("%d with rows", filled)
	}
}
