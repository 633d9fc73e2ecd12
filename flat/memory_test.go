package flat_test

import (
	"reflect"
	"slices"
	"strings"
	"testing"
	"unsafe"

	"freshet/api"
	"freshet/flat"
)

// span is a piece of memory.
type span struct{ from, to uintptr }

// pieces are all lists, with their spare room, and all texts in something.
func pieces(v reflect.Value) []span {
	var l []span
	switch v.Kind() {
	case reflect.String:
		s := v.String()
		from := uintptr(unsafe.Pointer(unsafe.StringData(s)))
		return []span{{from, from + uintptr(len(s))}}
	case reflect.Slice:
		from := v.Pointer()
		l = append(l, span{from, from + uintptr(v.Cap())*v.Type().Elem().Size()})
		for i := range v.Len() {
			l = append(l, pieces(v.Index(i))...)
		}
	case reflect.Struct:
		for i := range v.NumField() {
			l = append(l, pieces(v.Field(i))...)
		}
	}
	return l
}

// mustLieApart asks that an answer's pieces share no memory with any others.
func mustLieApart(t *testing.T, s string, answer, others []span) {
	t.Helper()
	inside := func(a, b span) bool { return a.from < b.to && b.from < a.to }
	for i, a := range answer {
		for _, b := range slices.Concat(answer[:i], others) {
			if inside(a, b) {
				t.Fatalf("%s: an answer shares memory with another one, with itself, or with what was handed in", s)
			}
		}
	}
}

// longTables have texts that are long enough to be shared.
func longTables() []api.Filled {
	long := strings.Repeat("long enough ", 20)
	return []api.Filled{
		table("w", times(2, integer(1), text(long), octets(long)), times(1, integer(2), text(long+"b"), octets(long)), times(-1, null, text(long), null), times(1, null, null, octets(long))),
		table("a_table_of_some_name"),
	}
}

// R4: what is answered is new memory, its spare room and its texts too, wherever the rows come from.
func TestAnswersAreNew(t *testing.T) {
	db := longTables()
	w, m := get("w", 3), get("$0", 3)
	rows := listed(3, db[0].Rows...)
	for _, f := range []api.Flat{
		w, rows, mapped(w, col(1), col(1), lit(text("a long enough text")), lit(text("a long enough text")), call(api.OpCoalesce, col(1), lit(text("none")))), filtered(w, call(api.OpEq, col(2), col(2))), filtered(rows, lit(yes)), columns(w, 1, 2, 1), columns(rows, 1, 1),
		joined(w, w, []int{2}, []int{2}), joined(rows, w, nil, nil), over(api.FUnion, w, rows, w), over(api.FUnion, w), over(api.FNegate, w), over(api.FPos, rows), over(api.FDistinct, w),
		reduced(w, []int{1, 1}, api.Fold{Fn: api.AggMin, Col: 1}, api.Fold{Fn: api.AggMax, Col: 1}, api.Fold{Fn: api.AggMax, Col: 2}), reduced(w, []int{2}, api.Fold{Fn: api.AggMin, Col: 2}), top(w, 3, []int{2}, []int{1}, true), only(over(api.FDistinct, w), 0), let("$0", w, m), let("$0", w, over(api.FUnion, m, m)), let("$0", mapped(w, col(1)), get("$0", 4)), let("$0", w, joined(m, m, []int{1}, []int{1})),
	} {
		others := append(pieces(reflect.ValueOf(db)), pieces(reflect.ValueOf(f))...)
		for range 2 {
			got, bad := flat.Eval(db, f)
			if bad != api.OK || len(got) == 0 {
				t.Fatalf("%s: error %d", describe(f), bad)
			}
			answer := pieces(reflect.ValueOf(got))
			mustLieApart(t, describe(f), answer, others)
			others = append(others, answer...)
		}
	}
}

// R4: the names that are read are new memory, too.
func TestReadsAreNew(t *testing.T) {
	f := over(api.FUnion, get(strings.Clone("a_table_of_some_name"), 1), get(strings.Clone("another_one"), 1), get(strings.Clone("another_one"), 1))
	others := pieces(reflect.ValueOf(f))
	for range 3 {
		got := flat.Reads(f)
		if len(got) != 2 {
			t.Fatalf("%q", got)
		}
		answer := pieces(reflect.ValueOf(got))
		mustLieApart(t, "Reads", answer, others)
		others = append(others, answer...)
	}
}

// roomy is the same list, with room behind it that is marked.
func roomy[T any](l []T, mark T) []T {
	l = append(make([]T, 0, len(l)+3), l...)
	for i := len(l); i < cap(l); i++ {
		l[:cap(l)][i] = mark
	}
	return l
}

func roomyRows(l []api.Count) []api.Count {
	l = roomy(l, times(9, text("room")))
	for i, c := range l {
		l[i].Row = roomy(c.Row, text("room"))
	}
	return l
}

// roomyPlan is the same plan; each list in it has room behind it.
func roomyPlan(f api.Flat) api.Flat {
	f.Rows, f.Exprs, f.Kids = roomyRows(f.Rows), roomy(f.Exprs, api.Expr{Kind: -1}), roomy(f.Kids, api.Flat{Kind: -1})
	f.Cols, f.More, f.Desc, f.Aggs = roomy(f.Cols, -1), roomy(f.More, -1), roomy(f.Desc, true), roomy(f.Aggs, api.Fold{Fn: -1})
	for i, e := range f.Exprs {
		f.Exprs[i] = roomyExpr(e)
	}
	for i, kid := range f.Kids {
		f.Kids[i] = roomyPlan(kid)
	}
	return f
}

func roomyExpr(e api.Expr) api.Expr {
	e.Kids = roomy(e.Kids, api.Expr{Kind: -1})
	for i, kid := range e.Kids {
		e.Kids[i] = roomyExpr(kid)
	}
	return e
}

// wholeOf are all parts of something, and the room behind each list.
func wholeOf(v reflect.Value) []any {
	var l []any
	switch v.Kind() {
	case reflect.Slice:
		v = v.Slice(0, v.Cap())
		for i := range v.Len() {
			l = append(l, wholeOf(v.Index(i))...)
		}
	case reflect.Struct:
		for i := range v.NumField() {
			l = append(l, wholeOf(v.Field(i))...)
		}
	default:
		l = append(l, v.Interface())
	}
	return l
}

// R4: what is handed in is not changed, nor the room behind it, errors or not.
func TestArgumentsStay(t *testing.T) {
	found := map[api.Errno]int{}
	for seed := range uint64(1500) {
		f, _ := somePlan(seed+1<<41, 1+int(seed%6))
		db := someTables(lot(seed))
		if _, why := judged(db, f); why == tooMuch {
			continue
		}
		db = roomy(db, api.Filled{Name: "room"})
		for i, one := range db {
			db[i].Rows = roomyRows(one.Rows)
		}
		f = roomyPlan(f)
		if chance(lot(seed), 5) {
			(&maker{by: lot(seed)}).spoil(&f)
		}
		whole := func() [2][]any { return [2][]any{wholeOf(reflect.ValueOf(db)), wholeOf(reflect.ValueOf(f))} }
		before := whole()
		_, bad := flat.Eval(db, f)
		found[bad]++
		flat.Right(f)
		flat.Width(f)
		flat.Reads(f)
		for _, e := range f.Exprs {
			flat.Safe(e)
		}
		if !reflect.DeepEqual(before, whole()) {
			t.Fatalf("seed %d: %s: what was handed in was changed", seed, describe(f))
		}
	}
	if found[api.OK] < 500 || found[api.ErrEval] < 50 || found[api.ErrFlat] < 50 {
		t.Errorf("%v", found)
	}
}

// R5: an empty list is as good as none.
func TestNilIsEmpty(t *testing.T) {
	for _, db := range [][]api.Filled{nil, {}} {
		makesIn(t, db, listed(0, times(2)), "2 ()")
		if !refuses(db, get("n", 1), api.ErrNone) {
			t.Error("a table that is not there")
		}
	}
	for _, rows := range [][]api.Count{nil, {}} {
		makesIn(t, []api.Filled{{Name: "n", Rows: rows}}, get("n", 7))
		makes(t, api.Flat{Kind: api.FRows, Width: 3, Rows: rows, Kids: []api.Flat{}})
	}
	for _, r := range []api.Row{nil, {}} {
		makesIn(t, []api.Filled{table("n", api.Count{Row: r, N: 1}, times(1))}, over(api.FUnion, get("n", 0), listed(0, api.Count{Row: r, N: 1})), "3 ()")
	}
	for kind := range api.FLet + 1 {
		plain := api.Flat{Kind: kind, Name: "n", Width: 1, Kids: []api.Flat{listed(1, numbers(1, 1))}}
		switch kind {
		case api.FGet, api.FRows:
			plain.Kids = nil
		case api.FJoin, api.FLet:
			plain.Name, plain.Kids = "$0", append(plain.Kids, plain.Kids...)
		}
		empty := plain
		empty.Rows, empty.Exprs, empty.Cols, empty.More, empty.Desc, empty.Aggs = []api.Count{}, []api.Expr{}, []int{}, []int{}, []bool{}, []api.Fold{}
		if plain.Kids == nil {
			empty.Kids = []api.Flat{}
		}
		got, bad := flat.Eval(database(), plain)
		again, badAgain := flat.Eval(database(), empty)
		if bad != badAgain || !slices.Equal(show(got), show(again)) || flat.Width(plain) != flat.Width(empty) {
			t.Errorf("kind %d: %v, error %d; with empty lists %v, error %d", kind, show(got), bad, show(again), badAgain)
		}
	}
}
