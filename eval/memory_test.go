package eval_test

import (
	"math/rand/v2"
	"reflect"
	"slices"
	"strings"
	"testing"
	"unsafe"

	"freshet/api"
	"freshet/eval"
)

// span is where a text lies.
type span struct{ from, to uintptr }

func spanOf(s string) span {
	from := uintptr(unsafe.Pointer(unsafe.StringData(s)))
	return span{from, from + uintptr(len(s))}
}

// R4: what is answered is new memory, wherever the value comes from.
func TestAnswersAreNew(t *testing.T) {
	long := strings.Repeat("long enough ", 50)
	env, sub := []api.Row{{text(long), octets(long)}}, text(long)
	l := []span{spanOf(long)}
	for _, e := range []api.Expr{
		call(api.OpCoalesce, lit(text(long)), scalar()), call(api.OpCase, call(api.OpIsNull, scalar()), lit(null), col(0, 0)), call(api.OpCoalesce, scalar(), lit(text("a"))), call(api.OpCase, lit(yes), col(0, 1), scalar()), call(api.OpCase, lit(yes), lit(octets(long)), scalar()),
		scalar(), in(), exists(),
	} {
		for range 2 {
			d, bad := eval.Value(e, env, sub)
			if bad != api.OK || d.S != long {
				t.Fatalf("%s: %v, error %d", show(e), d, bad)
			}
			l = append(l, spanOf(d.S))
		}
	}
	for _, e := range []api.Expr{lit(text(long)), col(0, 0), col(0, 1)} {
		d, _ := eval.Value(e, env)
		l = append(l, spanOf(d.S))
	}
	for i, a := range l {
		for _, b := range l[:i] {
			if a.from < b.to && b.from < a.to {
				t.Fatal("an answer shares memory with another one, or with what was handed in")
			}
		}
	}
}

// roomy is the same list, with room behind it that is marked.
func roomy[T any](l []T, mark T) []T {
	l = append(make([]T, 0, len(l)+3), l...)
	for i := len(l); i < cap(l); i++ {
		l[:cap(l)][i] = mark
	}
	return l
}

// roomyExpr is the same expression; each list in it has room behind it.
func roomyExpr(e api.Expr) api.Expr {
	e.Kids, e.Subs = roomy(e.Kids, api.Expr{Kind: -1}), roomy(e.Subs, api.Rel{Kind: -1})
	for i, kid := range e.Kids {
		e.Kids[i] = roomyExpr(kid)
	}
	return e
}

// wholeOf is all of something, and the room behind each list.
func wholeOf(v reflect.Value) []any {
	var l []any
	switch v.Kind() {
	case reflect.Slice:
		v = v.Slice(0, v.Cap())
		for i := range v.Len() {
			l = append(l, wholeOf(v.Index(i))...)
		}
	case reflect.Struct:
		for i := range v.NumField() {
			l = append(l, wholeOf(v.Field(i))...)
		}
	default:
		l = append(l, v.Interface())
	}
	return l
}

// R4: what is handed in is not changed, nor the room behind it, errors or not.
func TestArgumentsStay(t *testing.T) {
	found := map[api.Errno]int{}
	for seed := range uint64(2000) {
		m := newMaker(seed)
		e := roomyExpr(m.expr(m.by.IntN(6), int(seed%6)))
		if chance(m.by, 8) {
			*pick(m.by, places(&e)...) = api.Expr{}
		}
		env, subs := roomy(m.env, api.Row{text("room")}), roomy(m.subs, text("room"))
		for i, r := range env {
			env[i] = roomy(r, text("room"))
		}
		whole := func() [3][]any {
			return [3][]any{wholeOf(reflect.ValueOf(e)), wholeOf(reflect.ValueOf(env)), wholeOf(reflect.ValueOf(subs))}
		}
		before := whole()
		_, bad := eval.Value(e, env, subs...)
		found[bad]++
		if !reflect.DeepEqual(before, whole()) {
			t.Fatalf("seed %d: %s: what was handed in was changed", seed, show(e))
		}
	}
	for _, bad := range []api.Errno{api.OK, api.ErrArg, api.ErrEval, api.ErrType} {
		if found[bad] < 20 {
			t.Errorf("too few of error %d: %v", bad, found)
		}
	}
}

// R5: an empty list is as good as none.
func TestNilIsEmpty(t *testing.T) {
	for _, subs := range [][]api.Datum{nil, {}} {
		for _, env := range [][]api.Row{nil, {}, {nil}, {{}}} {
			gives(t, yes, lit(yes), env, subs...)
			fails(t, api.ErrArg, col(0, 0), env, subs...)
			fails(t, api.ErrArg, exists(), env, subs...)
		}
	}
	for _, kids := range [][]api.Expr{nil, {}} {
		gives(t, yes, api.Expr{Kind: api.ELit, Lit: yes, Kids: kids, Subs: []api.Rel{}}, nil)
		gives(t, yes, api.Expr{Kind: api.EIn, Kids: kids, Subs: []api.Rel{}}, nil, yes)
		for op := range 22 {
			fails(t, api.ErrArg, call(op, kids...), nil)
		}
	}
}

// R1: parts within one another, as many as there may be, with subqueries beside them.
func TestDeep(t *testing.T) {
	const depth = 1<<16 - 2 // even, so that as many NOTs are none
	for name, x := range map[string]struct {
		within func(api.Expr) api.Expr
		subs   int // how many there are in each part, besides
	}{
		"NOT":       {func(e api.Expr) api.Expr { return call(api.OpNot, e) }, 0},
		"AND":       {func(e api.Expr) api.Expr { return call(api.OpAnd, e, exists()) }, 1},
		"OR":        {func(e api.Expr) api.Expr { return call(api.OpOr, exists(), e) }, 1},
		"ELSE":      {func(e api.Expr) api.Expr { return call(api.OpCase, exists(), lit(null), e) }, 1},
		"condition": {func(e api.Expr) api.Expr { return call(api.OpCase, e, exists(), exists()) }, 2},
		"value":     {func(e api.Expr) api.Expr { return call(api.OpCase, lit(yes), e, exists()) }, 1},
		"COALESCE":  {func(e api.Expr) api.Expr { return call(api.OpCoalesce, e, exists(), exists()) }, 2},
		"left out":  {func(e api.Expr) api.Expr { return call(api.OpCase, lit(yes), lit(no), e, exists()) }, 1},
	} {
		e, subs := lit(no), []api.Datum{}
		for range depth {
			e, subs = x.within(e), append(subs, slices.Repeat([]api.Datum{no}, x.subs)...)
		}
		if got, bad := eval.Value(e, nil, subs...); bad != api.OK || got != no {
			t.Errorf("%s: %v, error %d", name, got, bad)
		}
		if got, bad := eval.Value(e, nil, append(subs, no)...); bad != api.ErrArg || got != null {
			t.Errorf("%s, with one value more: %v, error %d", name, got, bad)
		}
	}
}

// R1: kids beside one another, in great numbers.
func TestWide(t *testing.T) {
	const width = 1 << 17
	kids := slices.Repeat([]api.Expr{scalar()}, width)
	nulls := make([]api.Datum, width)
	gives(t, null, call(api.OpCoalesce, kids...), nil, nulls...)
	gives(t, null, call(api.OpCase, kids...), nil, nulls...)
	last := slices.Clone(nulls)
	last[width-1] = yes
	gives(t, yes, call(api.OpCoalesce, kids...), nil, last...)
	last[width-2] = yes
	gives(t, yes, call(api.OpCase, kids...), nil, last...)
	gives(t, yes, call(api.OpCase, kids[1:]...), nil, last[:width-1]...)
	fails(t, api.ErrArg, call(api.OpCase, kids...), nil, last[1:]...)
	fails(t, api.ErrArg, call(api.OpAnd, kids...), nil, last...)
	fails(t, api.ErrArg, call(api.OpIsNull, kids...), nil, last...)
}

// R1, R2: nonsense of all kinds is refused, or is worth something.
func TestNonsense(t *testing.T) {
	found := map[api.Errno]int{}
	for seed := range uint64(100000) {
		by := lot(seed)
		e, env := nonsense(by, 3), []api.Row{{yes, integer(0)}, {null}}
		got, bad := eval.Value(e, env, slices.Repeat([]api.Datum{yes}, by.IntN(3))...)
		found[bad]++
		if bad != api.OK && got != null {
			t.Fatalf("%s: %v beside error %d", show(e), got, bad)
		}
	}
	for _, bad := range []api.Errno{api.OK, api.ErrArg, api.ErrEval, api.ErrType} {
		if found[bad] < 10 || len(found) > 4 {
			t.Errorf("too few of error %d: %v", bad, found)
		}
	}
}

func nonsense(by *rand.Rand, depth int) api.Expr {
	e := api.Expr{Kind: pick(by, 0, 1, 1, 2, 3, 3, 3, 4, 5, 6, 7, -1), Op: by.IntN(23) - 1, Level: by.IntN(4) - 1, Col: by.IntN(4) - 1, Lit: someValue(by, by.IntN(6))}
	if chance(by, 20) {
		e.Lit = pick(by, wrongValues()...)
	}
	n := by.IntN(4)
	if l := kidsOf(e.Op); l != nil && !chance(by, 4) {
		n = l[0]
	}
	for range n {
		if depth > 0 {
			e.Kids = append(e.Kids, nonsense(by, depth-1))
		}
	}
	return e
}
