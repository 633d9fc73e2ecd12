package lower_test

import (
	"cmp"
	"reflect"
	"runtime"
	"slices"
	"strings"
	"testing"
	"unsafe"

	"freshet/api"
	"freshet/flat"
	"freshet/lower"
)

// span is a piece of memory.
type span struct{ from, to uintptr }

// pieces are all lists, with their spare room, and all texts in something.
func pieces(v reflect.Value) []span {
	var l []span
	switch v.Kind() {
	case reflect.String:
		s := v.String()
		from := uintptr(unsafe.Pointer(unsafe.StringData(s)))
		return []span{{from, from + uintptr(len(s))}}
	case reflect.Slice:
		from := v.Pointer()
		l = append(l, span{from, from + uintptr(v.Cap())*v.Type().Elem().Size()})
		for i := range v.Len() {
			l = append(l, pieces(v.Index(i))...)
		}
	case reflect.Struct:
		for i := range v.NumField() {
			l = append(l, pieces(v.Field(i))...)
		}
	}
	return l
}

// mustLieApart asks that an answer's pieces share no memory with one another, nor with any others.
func mustLieApart(t *testing.T, s string, answer, others []span) {
	t.Helper()
	type piece struct {
		span
		own bool
	}
	var l []piece
	for _, one := range answer {
		l = append(l, piece{one, true})
	}
	for _, one := range others {
		l = append(l, piece{one, false})
	}
	slices.SortFunc(l, func(a, b piece) int { return cmp.Compare(a.from, b.from) })
	var owned, any uintptr // how far what lies ahead reaches: the answer's, and all
	for _, one := range l {
		if one.from == one.to {
			continue
		}
		if one.from < owned || one.own && one.from < any {
			t.Fatalf("%.300q: an answer shares memory with another one, with itself, or with what was handed in", s)
		}
		any = max(any, one.to)
		if one.own {
			owned = max(owned, one.to)
		}
	}
}

// roomy is the same list, with room behind it that is marked.
func roomy[T any](l []T, mark T) []T {
	l = append(make([]T, 0, len(l)+3), l...)
	for i := len(l); i < cap(l); i++ {
		l[:cap(l)][i] = mark
	}
	return l
}

// roomyRel is the same query; each list in it has room behind it.
func roomyRel(r api.Rel) api.Rel {
	r.Cols, r.Exprs, r.Aggs, r.Kids = roomy(r.Cols, api.Col{Name: "room"}), roomy(r.Exprs, api.Expr{Kind: -1}), roomy(r.Aggs, api.Agg{Fn: -1}), roomy(r.Kids, api.Rel{Kind: -1})
	r.Nums, r.Desc = roomy(r.Nums, -1), roomy(r.Desc, true)
	for i, e := range r.Exprs {
		r.Exprs[i] = roomyExpr(e)
	}
	for i, a := range r.Aggs {
		r.Aggs[i].Args = roomy(a.Args, api.Expr{Kind: -1})
		for k, e := range a.Args {
			r.Aggs[i].Args[k] = roomyExpr(e)
		}
	}
	for i, kid := range r.Kids {
		r.Kids[i] = roomyRel(kid)
	}
	return r
}

func roomyExpr(e api.Expr) api.Expr {
	e.Kids, e.Subs = roomy(e.Kids, api.Expr{Kind: -1}), roomy(e.Subs, api.Rel{Kind: -1})
	for i, kid := range e.Kids {
		e.Kids[i] = roomyExpr(kid)
	}
	for i, sub := range e.Subs {
		e.Subs[i] = roomyRel(sub)
	}
	return e
}

// wholeOf are all parts of something, and the room behind each list.
func wholeOf(v reflect.Value) []any {
	var l []any
	switch v.Kind() {
	case reflect.Slice:
		v = v.Slice(0, v.Cap())
		for i := range v.Len() {
			l = append(l, wholeOf(v.Index(i))...)
		}
	case reflect.Struct:
		for i := range v.NumField() {
			l = append(l, wholeOf(v.Field(i))...)
		}
	default:
		l = append(l, v.Interface())
	}
	return l
}

// R4: what is answered is new memory, its spare room and its texts too.
func TestAnswersAreNew(t *testing.T) {
	long := strings.Repeat("long enough ", 20)
	for _, s := range append(greatQueries(), "SELECT 'LONG', c0 FROM o WHERE 'LONG' IN (SELECT 'LONG' FROM o UNION ALL SELECT 'LONG')", "SELECT max('LONG'), count(*) FROM o GROUP BY c0 ORDER BY c1 DESC, c2 LIMIT 3") {
		s = strings.ReplaceAll(s, "LONG", long)
		r := checkedWide(t, s)
		one, two := lowered(t, s, r), lowered(t, s, r)
		first, second := pieces(reflect.ValueOf(one)), pieces(reflect.ValueOf(two))
		mustLieApart(t, s, first, pieces(reflect.ValueOf(r)))
		mustLieApart(t, s, second, append(first, pieces(reflect.ValueOf(r))...))
		runtime.KeepAlive([]any{r, one, two}) // else what lies where one was might be another's by now
	}
	w := api.Rel{Kind: api.RGet, Name: "w", Cols: wide()[0].Cols}
	tables := api.Rel{Kind: api.RMap, Cols: w.Cols[:1], Exprs: []api.Expr{{Kind: api.ECol, Type: api.Int, Col: 3}}, Kids: []api.Rel{{Kind: api.RUnion, Cols: w.Cols, Kids: []api.Rel{w, w}}}}
	mustLieApart(t, "tables", pieces(reflect.ValueOf(lowered(t, "tables", tables))), nil)
	for seed := range uint64(300) {
		if r, s, is := someQuery(seed+1<<34, 1+int(seed%6)); is {
			f := lowered(t, s, r)
			mustLieApart(t, s, pieces(reflect.ValueOf(f)), pieces(reflect.ValueOf(r)))
			runtime.KeepAlive([]any{r, f})
		}
	}
}

// R4, R6: what is handed in is not changed, nor the room behind it, errors or not; asked again, the answer is the same.
func TestArgumentsStay(t *testing.T) {
	found := map[api.Errno]int{}
	for seed := range uint64(1000) {
		r, s, is := someQuery(seed+1<<35, 1+int(seed%4))
		if !is {
			continue
		}
		if chance(lot(seed), 3) {
			m := &maker{by: lot(seed + 1<<36)}
			m.spoil(&r)
		}
		r = roomyRel(r)
		before := wholeOf(reflect.ValueOf(r))
		first, bad := lower.Lower(r)
		found[bad]++
		again, why := lower.Lower(r)
		if bad != why || !reflect.DeepEqual(first, again) {
			t.Fatalf("%.2000s: %s, error %d; ahead %s, error %d", s, describe(again), why, describe(first), bad)
		}
		if !reflect.DeepEqual(before, wholeOf(reflect.ValueOf(r))) {
			t.Fatalf("%.2000s: what was handed in was changed", s)
		}
	}
	if found[api.OK] < 500 || found[api.ErrLong] < 50 {
		t.Errorf("%v", found)
	}
}

// emptyRel is the same query; each list in it that has nothing is not nil.
func emptyRel(r api.Rel) api.Rel {
	r.Cols, r.Exprs, r.Aggs, r.Kids = append([]api.Col{}, r.Cols...), append([]api.Expr{}, r.Exprs...), append([]api.Agg{}, r.Aggs...), append([]api.Rel{}, r.Kids...)
	r.Nums, r.Desc = append([]int{}, r.Nums...), append([]bool{}, r.Desc...)
	for i, e := range r.Exprs {
		r.Exprs[i] = emptyExpr(e)
	}
	for i, a := range r.Aggs {
		r.Aggs[i].Args = append([]api.Expr{}, a.Args...)
	}
	for i, kid := range r.Kids {
		r.Kids[i] = emptyRel(kid)
	}
	return r
}

func emptyExpr(e api.Expr) api.Expr {
	e.Kids, e.Subs = append([]api.Expr{}, e.Kids...), append([]api.Rel{}, e.Subs...)
	for i, kid := range e.Kids {
		e.Kids[i] = emptyExpr(kid)
	}
	for i, sub := range e.Subs {
		e.Subs[i] = emptyRel(sub)
	}
	return e
}

// R5: an empty list is as good as none.
func TestNilIsEmpty(t *testing.T) {
	for seed := range uint64(500) {
		r, s, is := someQuery(seed+1<<37, 1+int(seed%5))
		if !is {
			continue
		}
		db := someTables(lot(seed))
		want, why := flat.Eval(db, lowered(t, s, r))
		if got, bad := flat.Eval(db, lowered(t, s, emptyRel(r))); bad != why || !slices.Equal(show(got), show(want)) {
			t.Fatalf("%.2000s over %v: %.500s, error %d; want %.500s, error %d", s, db, show(got), bad, show(want), why)
		}
	}
}
