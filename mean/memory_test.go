package mean_test

import (
	"reflect"
	"slices"
	"strings"
	"testing"
	"unsafe"

	"freshet/api"
	"freshet/mean"
)

// span is a piece of memory.
type span struct{ from, to uintptr }

// pieces are all lists, with their spare room, and all texts in something.
func pieces(v reflect.Value) []span {
	var l []span
	switch v.Kind() {
	case reflect.String:
		s := v.String()
		from := uintptr(unsafe.Pointer(unsafe.StringData(s)))
		return []span{{from, from + uintptr(len(s))}}
	case reflect.Slice:
		from := v.Pointer()
		l = append(l, span{from, from + uintptr(v.Cap())*v.Type().Elem().Size()})
		for i := range v.Len() {
			l = append(l, pieces(v.Index(i))...)
		}
	case reflect.Struct:
		for i := range v.NumField() {
			l = append(l, pieces(v.Field(i))...)
		}
	}
	return l
}

// mustLieApart asks that an answer's pieces share no memory with any others.
func mustLieApart(t *testing.T, s string, answer, others []span) {
	t.Helper()
	inside := func(a, b span) bool { return a.from < b.to && b.from < a.to }
	for i, a := range answer {
		for _, b := range slices.Concat(answer[:i], others) {
			if inside(a, b) {
				t.Fatalf("%.300q: an answer shares memory with another one, with itself, or with what was handed in", s)
			}
		}
	}
}

// roomy is the same list, with room behind it that is marked.
func roomy[T any](l []T, mark T) []T {
	l = append(make([]T, 0, len(l)+3), l...)
	for i := len(l); i < cap(l); i++ {
		l[:cap(l)][i] = mark
	}
	return l
}

func roomyTables(db []api.Filled) []api.Filled {
	db = roomy(db, api.Filled{Name: "room"})
	for i, f := range db {
		rows := roomy(f.Rows, times(9, text("room")))
		for k, c := range rows {
			rows[k].Row = roomy(c.Row, text("room"))
		}
		db[i].Rows = rows
	}
	return db
}

// roomyRel is the same query; each list in it has room behind it.
func roomyRel(r api.Rel) api.Rel {
	r.Cols, r.Exprs, r.Aggs, r.Kids = roomy(r.Cols, api.Col{Name: "room"}), roomy(r.Exprs, api.Expr{Kind: -1}), roomy(r.Aggs, api.Agg{Fn: -1}), roomy(r.Kids, api.Rel{Kind: -1})
	r.Nums, r.Desc = roomy(r.Nums, -1), roomy(r.Desc, true)
	for i, e := range r.Exprs {
		r.Exprs[i] = roomyExpr(e)
	}
	for i, a := range r.Aggs {
		r.Aggs[i].Args = roomy(a.Args, api.Expr{Kind: -1})
		for k, e := range a.Args {
			r.Aggs[i].Args[k] = roomyExpr(e)
		}
	}
	for i, kid := range r.Kids {
		r.Kids[i] = roomyRel(kid)
	}
	return r
}

func roomyExpr(e api.Expr) api.Expr {
	e.Kids, e.Subs = roomy(e.Kids, api.Expr{Kind: -1}), roomy(e.Subs, api.Rel{Kind: -1})
	for i, kid := range e.Kids {
		e.Kids[i] = roomyExpr(kid)
	}
	for i, sub := range e.Subs {
		e.Subs[i] = roomyRel(sub)
	}
	return e
}

// wholeOf are all parts of something, and the room behind each list.
func wholeOf(v reflect.Value) []any {
	var l []any
	switch v.Kind() {
	case reflect.Slice:
		v = v.Slice(0, v.Cap())
		for i := range v.Len() {
			l = append(l, wholeOf(v.Index(i))...)
		}
	case reflect.Struct:
		for i := range v.NumField() {
			l = append(l, wholeOf(v.Field(i))...)
		}
	default:
		l = append(l, v.Interface())
	}
	return l
}

// R4: what is answered is new memory, its spare room and its texts too, wherever the rows come from.
func TestAnswersAreNew(t *testing.T) {
	long := strings.Repeat("long enough ", 20)
	db := []api.Filled{
		table("t", times(2, integer(1), integer(2)), times(1, integer(2), null)), table("e"),
		table("n", times(1, integer(1)), times(1, integer(2)), times(1, integer(3))),
		table("v", times(2, yes, integer(1), decimal(1), text(long), octets(long)), times(1, no, integer(2), null, text(long+"b"), octets(long)), times(-1, null, null, null, text(long), null)),
	}
	two := "SELECT * FROM v AS x, v AS y"
	parts := map[string]api.Rel{"the join": query(t, two).Kids[0], "the right side": query(t, two).Kids[0].Kids[1]}
	for _, s := range []string{
		two, "SUBSCRIBE v", "SELECT * FROM v", "DELETE FROM v WHERE s IS NOT NULL", "SELECT s, s, y, 'a long enough text', s FROM v", "SELECT x.s, y.s FROM v AS x LEFT JOIN v AS y ON x.i > y.i",
		"SELECT DISTINCT s, y FROM v", "SELECT s, y, min(s), max(s), max(y), count(*) FROM v GROUP BY s, y", "SELECT min(s), max(s), min(s), max('a long enough text') FROM v", "SELECT s FROM v UNION ALL SELECT s FROM v", "SELECT s FROM v EXCEPT ALL SELECT 'b'", "SELECT s FROM v INTERSECT ALL SELECT s FROM v",
		"SELECT s, y FROM v ORDER BY s DESC LIMIT 2", "SELECT (SELECT max(s) FROM v), (SELECT max(s) FROM v) FROM n", "SELECT n.a, x.s, x.y FROM n, LATERAL (SELECT s, y FROM v WHERE n.a <= v.i LIMIT 1) AS x", "SELECT coalesce(s, 'none') AS s, s AS z FROM v ORDER BY s LIMIT 9", "SELECT a FROM t",
	} {
		parts[s] = query(t, s)
	}
	for s, r := range parts {
		others := append(pieces(reflect.ValueOf(db)), pieces(reflect.ValueOf(r))...)
		for range 2 {
			got, bad := mean.Mean(db, r)
			if bad != api.OK || len(got) == 0 {
				t.Fatalf("%s: error %d", s, bad)
			}
			answer := pieces(reflect.ValueOf(got))
			mustLieApart(t, s, answer, others)
			others = append(others, answer...)
		}
	}
}

// R4: what is handed in is not changed, nor the room behind it, errors or not.
func TestArgumentsStay(t *testing.T) {
	found := map[api.Errno]int{}
	for seed := range uint64(500) {
		r, s, is := someQuery(seed+1<<41, 1+int(seed%5))
		if !is {
			continue
		}
		db := someTables(lot(seed))
		if _, why := judged(db, r); why == tooMuch {
			continue
		}
		db, r = roomyTables(db), roomyRel(r)
		whole := func() [2][]any { return [2][]any{wholeOf(reflect.ValueOf(db)), wholeOf(reflect.ValueOf(r))} }
		before := whole()
		_, bad := mean.Mean(db, r)
		found[bad]++
		if !reflect.DeepEqual(before, whole()) {
			t.Fatalf("seed %d: %.2000s: what was handed in was changed", seed, s)
		}
	}
	if found[api.OK] < 300 || found[api.ErrEval] < 20 {
		t.Errorf("%v", found)
	}
}

// R5: an empty list is as good as none.
func TestNilIsEmpty(t *testing.T) {
	for _, db := range [][]api.Filled{nil, {}} {
		meansIn(t, db, "SELECT 1", "1 (1)")
	}
	for _, rows := range [][]api.Count{nil, {}} {
		db := []api.Filled{{Name: "n", Rows: rows}}
		meansIn(t, db, "SELECT * FROM n")
		meansIn(t, db, "SELECT count(*) FROM n", "1 (0)")
	}
	one := api.Rel{Kind: api.ROne}
	none := api.Rel{Kind: api.ROne, Cols: []api.Col{}, Exprs: []api.Expr{}, Aggs: []api.Agg{}, Kids: []api.Rel{}, Nums: []int{}, Desc: []bool{}}
	for _, kid := range []api.Rel{one, none} {
		for _, r := range []api.Rel{
			kid, {Kind: api.RMap, Kids: []api.Rel{kid}}, {Kind: api.RMap, Exprs: []api.Expr{}, Kids: []api.Rel{kid}}, {Kind: api.RGroup, Flag: true, Kids: []api.Rel{kid}}, {Kind: api.RGroup, Exprs: []api.Expr{}, Aggs: []api.Agg{}, Kids: []api.Rel{kid}},
			{Kind: api.RTop, Limit: 1, Kids: []api.Rel{kid}}, {Kind: api.RTop, Limit: 1, Nums: []int{}, Desc: []bool{}, Kids: []api.Rel{kid}}, {Kind: api.RDistinct, Cols: []api.Col{}, Kids: []api.Rel{kid}},
		} {
			if got, bad := mean.Mean(nil, r); bad != api.OK || len(got) != 1 || len(got[0].Row) != 0 || got[0].N != 1 {
				t.Errorf("%v: %v, error %d", r, got, bad)
			}
		}
	}
}

// R1: parts within one another, as many as there may be.
func TestDeep(t *testing.T) {
	const most = 1 << 16
	one, get := api.Rel{Kind: api.ROne}, api.Rel{Kind: api.RGet, Name: "n", Cols: schemas()[2].Cols}
	lit := func(d api.Datum) api.Expr { return api.Expr{Kind: api.ELit, Lit: d} }
	sub := func(kind int, r api.Rel) []api.Expr {
		return []api.Expr{{Kind: kind, Kids: []api.Expr{lit(integer(1))}, Subs: []api.Rel{r}}}
	}
	for name, x := range map[string]struct {
		depth  int // how many times there is room for what follows
		first  api.Rel
		within func(api.Rel) api.Rel
	}{
		"filter": {most, one, func(r api.Rel) api.Rel {
			return api.Rel{Kind: api.RFilter, Exprs: []api.Expr{lit(yes)}, Kids: []api.Rel{r}}
		}},
		"map": {most, get, func(r api.Rel) api.Rel {
			return api.Rel{Kind: api.RMap, Exprs: []api.Expr{{Kind: api.ECol}}, Kids: []api.Rel{r}}
		}},
		"left": {most, one, func(r api.Rel) api.Rel {
			return api.Rel{Kind: api.RJoin, Exprs: []api.Expr{lit(yes)}, Kids: []api.Rel{r, one}}
		}},
		"right": {most, one, func(r api.Rel) api.Rel {
			return api.Rel{Kind: api.RJoin, Flag: true, Exprs: []api.Expr{lit(yes)}, Kids: []api.Rel{one, r}}
		}},
		"lateral": {most, one, func(r api.Rel) api.Rel {
			return api.Rel{Kind: api.RJoin, Lateral: true, Exprs: []api.Expr{lit(yes)}, Kids: []api.Rel{one, r}}
		}},
		"group": {most, one, func(r api.Rel) api.Rel {
			return api.Rel{Kind: api.RGroup, Flag: true, Kids: []api.Rel{r}, Aggs: []api.Agg{{Fn: api.AggRows}}}
		}},
		"distinct": {most, get, func(r api.Rel) api.Rel { return api.Rel{Kind: api.RDistinct, Kids: []api.Rel{r}} }},
		"except":   {most, one, func(r api.Rel) api.Rel { return api.Rel{Kind: api.RExcept, Kids: []api.Rel{r, get}} }},
		"inter":    {most, one, func(r api.Rel) api.Rel { return api.Rel{Kind: api.RInter, Kids: []api.Rel{one, r}} }},
		"top": {most, get, func(r api.Rel) api.Rel {
			return api.Rel{Kind: api.RTop, Limit: 9, Nums: []int{0}, Desc: []bool{true}, Kids: []api.Rel{r}}
		}},
		"exists": {most / 2, get, func(r api.Rel) api.Rel {
			return api.Rel{Kind: api.RFilter, Exprs: sub(api.EExists, r), Kids: []api.Rel{one}}
		}},
		"scalar": {most / 2, api.Rel{Kind: api.RMap, Exprs: []api.Expr{lit(yes)}, Kids: []api.Rel{one}}, func(r api.Rel) api.Rel {
			return api.Rel{Kind: api.RMap, Exprs: sub(api.EScalar, r), Kids: []api.Rel{one}}
		}},
		"argument": {most / 2, get, func(r api.Rel) api.Rel {
			return api.Rel{Kind: api.RGroup, Flag: true, Aggs: []api.Agg{{Fn: api.AggCount, Args: sub(api.EExists, r)}}, Kids: []api.Rel{one}}
		}},
		"key": {most / 2, get, func(r api.Rel) api.Rel {
			return api.Rel{Kind: api.RGroup, Exprs: sub(api.EExists, r), Kids: []api.Rel{one}}
		}},
	} {
		r := x.first
		for range x.depth - 2 {
			r = x.within(r)
		}
		got, bad := mean.Mean(database(), r)
		if bad != api.OK || len(got) != 1 && len(got) != 3 {
			t.Errorf("%s: %.300v, error %d", name, got, bad)
		}
	}
}

// R1: within an expression, too.
func TestDeepExpressions(t *testing.T) {
	const depth = 1<<15 - 2
	exists := api.Expr{Kind: api.EExists, Subs: []api.Rel{{Kind: api.ROne}}}
	one := api.Rel{Kind: api.RMap, Exprs: []api.Expr{{Kind: api.ELit, Lit: yes}}, Kids: []api.Rel{{Kind: api.ROne}}}
	for name, within := range map[string]func(api.Expr) api.Expr{
		"left": func(e api.Expr) api.Expr {
			return api.Expr{Kind: api.ECall, Op: api.OpAnd, Kids: []api.Expr{e, exists}}
		},
		"right": func(e api.Expr) api.Expr {
			return api.Expr{Kind: api.ECall, Op: api.OpAnd, Kids: []api.Expr{exists, e}}
		},
		"in": func(e api.Expr) api.Expr { return api.Expr{Kind: api.EIn, Kids: []api.Expr{e}, Subs: []api.Rel{one}} },
		"subs": func(e api.Expr) api.Expr {
			return api.Expr{Kind: api.EScalar, Subs: []api.Rel{{Kind: api.RMap, Exprs: []api.Expr{e}, Kids: []api.Rel{{Kind: api.ROne}}}}}
		},
		"of two": func(e api.Expr) api.Expr {
			return api.Expr{Kind: api.ECall, Op: api.OpOr, Kids: []api.Expr{{Kind: api.EIn, Kids: []api.Expr{e}, Subs: []api.Rel{one}}, exists}}
		},
	} {
		e := exists
		for range depth {
			e = within(e)
		}
		got, bad := mean.Mean(nil, api.Rel{Kind: api.RMap, Exprs: []api.Expr{e}, Kids: []api.Rel{{Kind: api.ROne}}})
		if bad != api.OK || !slices.Equal(show(got), []string{"1 (TRUE)"}) {
			t.Errorf("%s: %.300v, error %d", name, got, bad)
		}
	}
}
