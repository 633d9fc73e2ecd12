package lower_test

import (
	"strconv"
	"testing"

	"freshet/api"
)

// R1: a query that has not what its kind asks for is refused, or has some plan.
func TestWhatIsNotMeant(t *testing.T) {
	one := api.Rel{Kind: api.ROne}
	get := api.Rel{Kind: api.RGet, Name: "n", Cols: schemas()[2].Cols}
	lit, col := api.Expr{Kind: api.ELit, Lit: integer(1)}, api.Expr{Kind: api.ECol}
	sub := func(kind int, kids []api.Expr, subs ...api.Rel) api.Rel {
		return api.Rel{Kind: api.RMap, Cols: get.Cols, Exprs: []api.Expr{{Kind: kind, Kids: kids, Subs: subs}}, Kids: []api.Rel{one}}
	}
	agg := func(fn int, args ...api.Expr) api.Rel {
		return api.Rel{Kind: api.RGroup, Cols: get.Cols, Aggs: []api.Agg{{Fn: fn, Args: args}}, Kids: []api.Rel{get}, Flag: true}
	}
	both := func(kind int, exprs ...api.Expr) api.Rel {
		return api.Rel{Kind: kind, Cols: get.Cols, Exprs: exprs, Kids: []api.Rel{get, get}}
	}
	for i, r := range []api.Rel{
		{}, {Kind: -1}, {Kind: api.RTop + 1}, {Kind: api.RGet}, {Kind: api.RGet, Name: "No name"}, {Kind: api.RGet, Name: "$1"}, {Kind: api.ROne, Cols: get.Cols},
		{Kind: api.RFilter}, {Kind: api.RFilter, Kids: []api.Rel{one}}, {Kind: api.RFilter, Exprs: []api.Expr{lit}}, {Kind: api.RFilter, Kids: []api.Rel{one}, Exprs: []api.Expr{{}}}, {Kind: api.RFilter, Kids: []api.Rel{one}, Exprs: []api.Expr{col}},
		{Kind: api.RMap, Exprs: []api.Expr{lit}}, {Kind: api.RMap, Cols: get.Cols, Kids: []api.Rel{one}}, {Kind: api.RMap, Cols: get.Cols, Kids: []api.Rel{one}, Exprs: []api.Expr{col}},
		{Kind: api.RMap, Cols: get.Cols, Kids: []api.Rel{get}, Exprs: []api.Expr{{Kind: api.ECol, Level: 1}}}, {Kind: api.RMap, Cols: get.Cols, Kids: []api.Rel{get}, Exprs: []api.Expr{{Kind: api.ECol, Level: -1}}}, {Kind: api.RMap, Cols: get.Cols, Kids: []api.Rel{get}, Exprs: []api.Expr{{Kind: api.ECol, Col: -1}}},
		{Kind: api.RMap, Cols: get.Cols, Kids: []api.Rel{get}, Exprs: []api.Expr{{Kind: api.ECall, Op: 99}}}, {Kind: api.RMap, Cols: get.Cols, Kids: []api.Rel{get}, Exprs: []api.Expr{{Kind: api.ECall, Op: api.OpCase, Kids: []api.Expr{col}}}}, {Kind: api.RMap, Cols: get.Cols, Kids: []api.Rel{get}, Exprs: []api.Expr{{Kind: api.ELit, Lit: text("\xff")}}},
		{Kind: api.RJoin}, {Kind: api.RJoin, Kids: []api.Rel{get}}, both(api.RJoin), {Kind: api.RJoin, Kids: []api.Rel{get}, Lateral: true}, {Kind: api.RJoin, Kids: []api.Rel{get, {}}, Exprs: []api.Expr{lit}}, both(api.RJoin, api.Expr{Kind: api.ECol, Col: 2}), both(api.RJoin, api.Expr{}),
		{Kind: api.RGroup}, {Kind: api.RGroup, Cols: get.Cols, Kids: []api.Rel{get}}, {Kind: api.RGroup, Kids: []api.Rel{get}, Exprs: []api.Expr{{}}}, agg(0), agg(-1, col), agg(api.AggMax+1, col), agg(api.AggCount), agg(api.AggSum), agg(api.AggMin), agg(api.AggMax), agg(api.AggSum, api.Expr{}),
		{Kind: api.RDistinct}, {Kind: api.RUnion}, {Kind: api.RUnion, Kids: []api.Rel{one}}, {Kind: api.RExcept}, {Kind: api.RExcept, Kids: []api.Rel{one}}, {Kind: api.RInter}, {Kind: api.RInter, Kids: []api.Rel{one}},
		{Kind: api.RTop}, {Kind: api.RTop, Cols: get.Cols, Kids: []api.Rel{get}, Limit: 1, Nums: []int{1}, Desc: []bool{true}}, {Kind: api.RTop, Cols: get.Cols, Kids: []api.Rel{get}, Limit: 1, Nums: []int{-1}, Desc: []bool{true}}, {Kind: api.RTop, Cols: get.Cols, Kids: []api.Rel{get}, Limit: 1, Nums: []int{0}}, {Kind: api.RTop, Kids: []api.Rel{one}, Limit: -1},
		sub(0, nil), sub(99, nil, one), sub(api.EExists, nil), sub(api.EScalar, nil), sub(api.EIn, nil), sub(api.EIn, []api.Expr{lit}), sub(api.EIn, nil, get), sub(api.EScalar, nil, one), sub(api.EIn, []api.Expr{lit}, one), sub(api.EExists, nil, api.Rel{}),
		sub(api.EIn, []api.Expr{{Kind: api.ELit, Lit: api.Datum{Kind: 9}}}, get),
	} {
		if bad := mustAnswer(t, strconv.Itoa(i), r); bad != api.ErrLong {
			t.Errorf("%d: error %d", i, bad)
		}
	}
	for i, r := range []api.Rel{
		one, get, {Kind: api.RMap, Kids: []api.Rel{one}}, {Kind: api.RMap, Exprs: []api.Expr{lit}, Kids: []api.Rel{get}}, {Kind: api.RFilter, Exprs: []api.Expr{lit}, Kids: []api.Rel{get}}, both(api.RJoin, lit), {Kind: api.RGroup, Flag: true, Exprs: []api.Expr{col}, Cols: get.Cols, Kids: []api.Rel{get}},
		{Kind: api.RTop, Cols: get.Cols, Kids: []api.Rel{get}}, agg(api.AggRows, api.Expr{}), agg(api.AggCount, col, api.Expr{}), sub(api.EExists, []api.Expr{{}}, one, api.Rel{}), sub(api.EScalar, nil, get), {Kind: api.RUnion, Cols: get.Cols, Kids: []api.Rel{get, get, {}}},
	} {
		if bad := mustAnswer(t, strconv.Itoa(i), r); bad != api.OK {
			t.Errorf("%d: error %d", i, bad)
		}
	}
}

// within are kinds of parts, each within a query of its kind, or beside one.
func within(get api.Rel) map[string]func(api.Rel) api.Rel {
	one, yes := api.Rel{Kind: api.ROne}, api.Expr{Kind: api.ELit, Type: api.Bool, Lit: yes}
	of := func(kind int, exprs []api.Expr, kids ...api.Rel) api.Rel {
		return api.Rel{Kind: kind, Cols: get.Cols, Exprs: exprs, Kids: kids}
	}
	sub := func(kind int, kid api.Expr, r api.Rel) []api.Expr {
		return []api.Expr{{Kind: kind, Type: api.Int, Kids: []api.Expr{kid}, Subs: []api.Rel{r}}}
	}
	column := []api.Expr{{Kind: api.ECol, Type: api.Int}}
	return map[string]func(api.Rel) api.Rel{
		"filter": func(r api.Rel) api.Rel { return of(api.RFilter, []api.Expr{yes}, r) },
		"condition": func(r api.Rel) api.Rel {
			return of(api.RFilter, []api.Expr{{Kind: api.ECall, Op: api.OpIsNull, Kids: column}}, r)
		},
		"map":   func(r api.Rel) api.Rel { return of(api.RMap, column, r) },
		"left":  func(r api.Rel) api.Rel { return of(api.RJoin, []api.Expr{yes}, r, one) },
		"right": func(r api.Rel) api.Rel { return of(api.RJoin, []api.Expr{yes}, one, r) },
		"lateral": func(r api.Rel) api.Rel {
			r = of(api.RJoin, []api.Expr{yes}, one, r)
			r.Flag, r.Lateral = true, true
			return r
		},
		"group":    func(r api.Rel) api.Rel { return of(api.RGroup, column, r) },
		"distinct": func(r api.Rel) api.Rel { return of(api.RDistinct, nil, r) },
		"union":    func(r api.Rel) api.Rel { return of(api.RUnion, nil, r, get) },
		"except":   func(r api.Rel) api.Rel { return of(api.RExcept, nil, r, get) },
		"inter":    func(r api.Rel) api.Rel { return of(api.RInter, nil, get, r) },
		"top": func(r api.Rel) api.Rel {
			r = of(api.RTop, nil, r)
			r.Limit, r.Nums, r.Desc = 9, []int{0}, []bool{true}
			return r
		},
		"exists":    func(r api.Rel) api.Rel { return of(api.RFilter, sub(api.EExists, yes, r), get) },
		"scalar":    func(r api.Rel) api.Rel { return of(api.RMap, sub(api.EScalar, yes, r), get) },
		"in":        func(r api.Rel) api.Rel { return of(api.RMap, sub(api.EIn, yes, r), get) },
		"kid of in": func(r api.Rel) api.Rel { return of(api.RMap, sub(api.EIn, sub(api.EScalar, yes, r)[0], get), get) },
		"argument": func(r api.Rel) api.Rel {
			return api.Rel{Kind: api.RGroup, Flag: true, Cols: get.Cols, Aggs: []api.Agg{{Fn: api.AggCount, Args: sub(api.EScalar, yes, r)}}, Kids: []api.Rel{get}}
		},
	}
}

// R1: parts within one another, as many as there may be, and as many as have a plan.
func TestDeep(t *testing.T) {
	get := api.Rel{Kind: api.RGet, Name: "n", Cols: []api.Col{{Name: "a", Type: api.Int}}}
	for name, within := range within(get) {
		r := get
		for depth := 1; depth <= 1<<15; depth++ {
			r = within(r)
			switch depth {
			case 20:
				if bad := mustAnswer(t, name, r); bad != api.OK {
					t.Errorf("%s: error %d", name, bad)
				}
			case 300, 1000, 5000:
				mustAnswer(t, name, r)
			case 1 << 15:
				if bad := mustAnswer(t, name, r); bad != api.ErrLong {
					t.Errorf("%s: error %d", name, bad)
				}
			}
		}
	}
}

// R1: queries whose nodes share lists, so that they have far more of them than there is memory for.
func TestSharedLists(t *testing.T) {
	one := api.Rel{Kind: api.RGet, Name: "n", Cols: []api.Col{{Name: "a", Type: api.Int}}}
	e := api.Expr{Kind: api.ELit, Type: api.Bool, Lit: yes}
	r, sub, agg := one, one, one
	for range 200 {
		r = api.Rel{Kind: api.RUnion, Cols: one.Cols, Kids: []api.Rel{r, r}}
		e = api.Expr{Kind: api.ECall, Type: api.Bool, Op: api.OpAnd, Kids: []api.Expr{e, e}}
		sub = api.Rel{Kind: api.RFilter, Cols: one.Cols, Kids: []api.Rel{one}, Exprs: []api.Expr{{Kind: api.EExists, Type: api.Bool, Subs: []api.Rel{sub, sub}}}}
		agg = api.Rel{Kind: api.RGroup, Cols: one.Cols, Kids: []api.Rel{one}, Aggs: []api.Agg{{Fn: api.AggCount, Args: []api.Expr{{Kind: api.EExists, Subs: []api.Rel{agg}}, {Kind: api.EExists, Subs: []api.Rel{agg}}}}}}
	}
	for i, r := range []api.Rel{r, {Kind: api.RFilter, Cols: one.Cols, Kids: []api.Rel{one}, Exprs: []api.Expr{e}}, sub, agg} {
		if bad := mustAnswer(t, strconv.Itoa(i), r); bad != api.ErrLong {
			t.Errorf("%d: error %d", i, bad)
		}
	}
}
