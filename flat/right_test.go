package flat_test

import (
	"slices"
	"strings"
	"testing"
	"time"

	"freshet/api"
	"freshet/eval"
	"freshet/flat"
)

// P9.1: each kind, and its width.
func TestWidths(t *testing.T) {
	tt, n, none := get("t", 2), get("n", 1), listed(0)
	mayBe(t, get("t", 0), 0, "t")
	mayBe(t, get("t", 7), 7, "t")
	mayBe(t, none, 0)
	mayBe(t, listed(0, times(3), times(-1), times(0)), 0)
	mayBe(t, listed(2, numbers(1, 1, 2), times(-5, null, text("a")), numbers(0, 3, 4), numbers(1, 1, 2)), 2)
	mayBe(t, mapped(tt), 2, "t")
	mayBe(t, mapped(none, lit(yes)), 1)
	mayBe(t, mapped(tt, col(0), col(1), lit(null), call(api.OpAdd, col(1), col(1))), 6, "t")
	mayBe(t, filtered(tt, col(1)), 2, "t")
	mayBe(t, filtered(none, lit(integer(1))), 0)
	mayBe(t, columns(tt), 0, "t")
	mayBe(t, columns(tt, 1, 0, 1), 3, "t")
	mayBe(t, columns(none), 0)
	mayBe(t, joined(tt, n, []int{1}, []int{0}), 3, "n", "t")
	mayBe(t, joined(n, tt, []int{0, 0, 0}, []int{1, 0, 1}), 3, "n", "t")
	mayBe(t, joined(none, tt, nil, []int{}), 2, "t")
	mayBe(t, over(api.FUnion, tt), 2, "t")
	mayBe(t, over(api.FUnion, tt, get("u", 2), tt), 2, "t", "u")
	mayBe(t, over(api.FUnion, none, none), 0)
	for _, kind := range []int{api.FNegate, api.FPos, api.FDistinct} {
		mayBe(t, over(kind, tt), 2, "t")
		mayBe(t, over(kind, none), 0)
	}
	mayBe(t, reduced(tt, nil), 0, "t")
	mayBe(t, reduced(tt, []int{1, 1, 0}, api.Fold{Fn: api.AggRows}, api.Fold{Fn: api.AggCount, Col: 1}, api.Fold{Fn: api.AggSum}, api.Fold{Fn: api.AggMin, Col: 1}, api.Fold{Fn: api.AggMax}), 8, "t")
	mayBe(t, reduced(none, nil, api.Fold{Fn: api.AggRows}), 1)
	mayBe(t, top(tt, 0, nil, nil), 2, "t")
	mayBe(t, top(tt, 1<<62, []int{1, 0, 1}, []int{1, 1, 0}, true, false, true), 2, "t")
	mayBe(t, only(tt), 2, "t")
	mayBe(t, only(tt, 1, 0, 1), 2, "t")
	mayBe(t, let("$0", tt, n), 1, "n", "t")
	mayBe(t, let("$0", tt, columns(get("$0", 2), 1, 1, 1)), 3, "t")
}

// P9.1: what a kind asks for, and is not there.
func TestWrongPlans(t *testing.T) {
	tt, n := get("t", 2), get("n", 1)
	mayNotBe(t, api.Flat{}, over(-1, tt), over(15, tt), over(api.FLet+1), over(1<<40, tt))
	mayNotBe(t, get("t", -1), get("t", api.MaxWidth+1), listed(-1), listed(api.MaxWidth+1), listed(-1, times(1)))
	mayNotBe(t, listed(1, numbers(1, 1, 2)), listed(1, numbers(1, 1), times(1)), listed(0, numbers(0, 1)), listed(2, numbers(-1, 1)))
	for _, d := range wrongValues() {
		mayNotBe(t, listed(1, times(1, d)), listed(2, numbers(1, 1, 2), times(0, null, d)), mapped(tt, lit(d)), filtered(tt, lit(d)), mapped(tt, col(0), call(api.OpNot, lit(d))))
	}
	for _, e := range []api.Expr{col(-1), col(2), {}, {Kind: -1}, {Kind: 7}, {Kind: api.ECol, Level: 1}, {Kind: api.ECol, Level: -1}, call(0), call(api.OpAdd, col(0), col(2))} {
		mayNotBe(t, mapped(tt, e), mapped(tt, col(0), e), filtered(tt, e))
	}
	mayNotBe(t, mapped(listed(0), col(0)), mapped(tt, lit(yes), col(2)), filtered(tt), filtered(tt, lit(yes), lit(yes)))
	mayNotBe(t, columns(tt, -1), columns(tt, 2), columns(tt, 0, 1, 2), columns(listed(0), 0))
	mayNotBe(t, joined(tt, n, []int{0}, nil), joined(tt, n, nil, []int{0}), joined(tt, n, []int{2}, []int{0}), joined(tt, n, []int{0}, []int{1}), joined(tt, n, []int{-1}, []int{0}), joined(tt, n, []int{0}, []int{-1}), joined(n, tt, []int{1}, []int{0}))
	mayNotBe(t, over(api.FUnion, tt, n), over(api.FUnion, n, n, tt), over(api.FUnion, tt, tt, listed(0)))
	for _, a := range []api.Fold{{}, {Fn: -1}, {Fn: 6}, {Fn: api.AggRows, Col: 1}, {Fn: api.AggRows, Col: -1}, {Fn: api.AggCount, Col: 2}, {Fn: api.AggSum, Col: -1}, {Fn: api.AggMin, Col: 2}, {Fn: api.AggMax, Col: 2}} {
		mayNotBe(t, reduced(tt, nil, a), reduced(tt, []int{0}, api.Fold{Fn: api.AggRows}, a))
	}
	for fn := api.AggCount; fn <= api.AggMax; fn++ {
		mayNotBe(t, reduced(listed(0), nil, api.Fold{Fn: fn}))
	}
	mayNotBe(t, reduced(tt, []int{2}), reduced(tt, []int{0, -1}))
	mayNotBe(t, top(tt, -1, nil, nil), top(tt, 1, []int{2}, nil), top(tt, 1, []int{-1}, nil), top(tt, 1, nil, []int{2}, true), top(tt, 1, nil, []int{-1}, true), top(tt, 1, nil, []int{0}), top(tt, 1, nil, nil, true), top(tt, 1, nil, []int{0}, true, false), top(tt, -1<<62, nil, nil))
	mayNotBe(t, only(tt, 2), only(tt, 0, -1), only(listed(0), 0))
}

// P9.1: each kind has just so many Kids, and none that may not be, wherever it stands.
func TestKids(t *testing.T) {
	kid := get("t", 2)
	for kind := range api.FLet + 1 {
		for n := range 5 {
			f := over(kind, slices.Repeat([]api.Flat{kid}, n)...)
			f.Name, f.Width = "t", 2
			switch kind {
			case api.FFilter:
				f.Exprs = []api.Expr{lit(yes)}
			case api.FLet:
				f.Name = "$1"
			}
			may := n == 1
			switch kind {
			case 0:
				may = false
			case api.FGet, api.FRows:
				may = n == 0
			case api.FJoin, api.FLet:
				may = n == 2
			case api.FUnion:
				may = n >= 1
			}
			if bad := flat.Right(f); (bad == api.OK) != may {
				t.Errorf("kind %d with %d Kids: error %d", kind, n, bad)
			}
			for i := range n {
				f.Kids = slices.Repeat([]api.Flat{kid}, n)
				f.Kids[i] = columns(kid, 5)
				mayNotBe(t, f)
			}
		}
	}
}

// P9.1: a table's name.
func TestNames(t *testing.T) {
	for _, name := range []string{"t", "a1", "_", "_0", "x", "selected", strings.Repeat("a", api.MaxName)} {
		mayBe(t, get(name, 1), 1, name)
		mayBe(t, over(api.FUnion, get("zzz", 1), get(name, 1), get("zzz", 1)), 1, name, "zzz")
	}
	for _, name := range []string{"", "T", "select", "SELECT", "lateral", "1", "1a", "a b", " a", "a ", "a.b", "a$", "ß", "x'00'", "'a'", "a\x00", "\xff", "--", "a--", "a\n", ";", strings.Repeat("a", api.MaxName+1), strings.Repeat("a", 1<<20), "$", "$a", "$0", "$000000", "$1234567"} {
		mayNotBe(t, get(name, 1), over(api.FUnion, get("t", 1), get(name, 1)), let("$7", get("t", 1), get(name, 1)), let("$7", get(name, 1), get("$7", 1)))
	}
}

// P9.1: the tables that are named, rising, each once, wherever they stand; no marks.
func TestReads(t *testing.T) {
	a, b := get("b", 1), get("a", 1)
	mayBe(t, over(api.FUnion, a, b, over(api.FNegate, a), get("_", 1), get("a1", 1), get("a_", 1)), 1, "_", "a", "a1", "a_", "b")
	mayBe(t, let("$1", a, listed(3)), 3, "b")
	mayBe(t, let("$1", a, let("$0", get("$1", 1), joined(get("$1", 1), b, nil, nil))), 2, "a", "b")
	mayBe(t, over(api.FUnion, get("a", 2), columns(get("a", 3), 0, 0)), 2, "a")
}

// P9.1: what a mark is.
func TestMarks(t *testing.T) {
	for _, mark := range []string{"$0", "$9", "$00", "$01", "$10", "$123456", "$999999", "$000000"} {
		mayBe(t, let(mark, get("t", 2), get(mark, 2)), 2, "t")
	}
	for _, mark := range []string{"", "$", "t", "0", "1", "$a", "$1a", "$a1", "$-1", "$+1", "$1234567", "$0000000", "$ 1", "$1 ", " $1", "$$1", "$1$", "$١", "#1"} {
		mayNotBe(t, let(mark, get("t", 2), get("t", 2)), let(mark, get("t", 2), get(mark, 2)))
	}
	// Another mark of the same number is another one.
	mayNotBe(t, let("$1", get("t", 2), get("$01", 2)), let("$01", get("t", 2), get("$1", 2)))
	mayBe(t, let("$1", get("t", 2), let("$01", get("n", 1), joined(get("$1", 2), get("$01", 1), nil, nil))), 3, "n", "t")
}

// P9.1: where a mark stands for something, and how wide that is.
func TestScopes(t *testing.T) {
	tt, m := get("t", 2), get("$0", 2)
	mayNotBe(t, m, let("$0", m, tt), let("$0", m, m), over(api.FUnion, let("$0", tt, m), m), over(api.FUnion, m, let("$0", tt, m)), joined(let("$0", tt, m), m, nil, nil), let("$1", tt, m))
	for _, width := range []int{-1, 0, 1, 3, api.MaxWidth} {
		mayNotBe(t, let("$0", tt, get("$0", width)))
	}
	mayBe(t, let("$0", columns(tt), get("$0", 0)), 0, "t")
	// It stands everywhere within the second Kid.
	mayBe(t, let("$0", tt, over(api.FUnion, m, over(api.FNegate, joined(m, listed(0), nil, nil)), let("$1", m, m))), 2, "t")
	// The same one can stand for one thing here and for another there, but not within its own second Kid.
	mayBe(t, over(api.FUnion, let("$0", tt, m), columns(let("$0", get("n", 1), get("$0", 1)), 0, 0)), 2, "n", "t")
	mayBe(t, let("$0", let("$0", tt, m), m), 2, "t")
	mayBe(t, let("$0", let("$0", tt, columns(m, 0)), get("$0", 1)), 1, "t")
	mayBe(t, let("$1", let("$0", tt, m), let("$0", get("$1", 2), m)), 2, "t")
	mayBe(t, let("$1", tt, over(api.FUnion, let("$0", tt, m), let("$0", get("$1", 2), m))), 2, "t")
	mayNotBe(t, let("$0", tt, let("$0", tt, m)), let("$0", tt, let("$0", m, m)), let("$0", tt, over(api.FNegate, let("$0", tt, tt))), let("$0", tt, let("$1", let("$0", tt, m), m)), let("$0", tt, let("$1", tt, let("$0", tt, m))))
	mayNotBe(t, let("$1", let("$0", tt, m), m), let("$0", let("$1", tt, get("$1", 2)), get("$1", 2)))
	// Behind an inner one the outer one still stands.
	mayBe(t, let("$0", tt, over(api.FUnion, let("$1", m, get("$1", 2)), m)), 2, "t")
	mayNotBe(t, let("$0", tt, over(api.FUnion, let("$1", m, get("$1", 2)), get("$1", 2))))
}

// P9.1: no width is more than MaxWidth, also of what is within.
func TestWidest(t *testing.T) {
	const most = api.MaxWidth
	widest, half := get("t", most), get("t", most/2)
	mayBe(t, widest, most, "t")
	mayBe(t, listed(most, times(1, slices.Repeat([]api.Datum{null}, most)...)), most)
	mayBe(t, mapped(get("t", most-2), lit(yes), col(most-3)), most, "t")
	mayBe(t, mapped(widest), most, "t")
	mayBe(t, filtered(widest, col(most-1)), most, "t")
	mayBe(t, columns(get("t", 1), make([]int, most)...), most, "t")
	mayBe(t, joined(half, half, nil, nil), most, "t")
	mayBe(t, joined(widest, listed(0), nil, nil), most, "t")
	mayBe(t, reduced(widest, make([]int, most-3), make3()...), most, "t")
	mayBe(t, over(api.FUnion, widest, widest), most, "t")
	mayBe(t, joined(get("t", 1), get("t", 1), make([]int, 5*most), make([]int, 5*most)), 2, "t")
	mayBe(t, only(top(get("t", 1), 1, make([]int, 5*most), make([]int, 5*most), make([]bool, 5*most)...), make([]int, 5*most)...), 1, "t")
	for _, f := range []api.Flat{
		get("t", most+1), listed(most+1, times(1, slices.Repeat([]api.Datum{null}, most+1)...)),
		mapped(widest, lit(yes)), mapped(get("t", most-2), lit(yes), lit(yes), lit(yes)), columns(get("t", 1), make([]int, most+1)...),
		joined(half, get("t", most/2+1), nil, nil), joined(widest, get("t", 1), nil, nil), joined(widest, widest, nil, nil),
		reduced(widest, make([]int, most-2), make3()...), reduced(widest, make([]int, most+1)), reduced(get("t", 1), nil, slices.Repeat(make3(), most/3+1)...),
	} {
		mayNotBe(t, f, columns(f, 0), reduced(f, nil), let("$0", f, listed(1)), let("$0", listed(1), columns(f, 0)), joined(columns(f), listed(1), nil, nil))
	}
}

// make3 are three aggregates.
func make3() []api.Fold {
	return []api.Fold{{Fn: api.AggRows}, {Fn: api.AggMax}, {Fn: api.AggSum}}
}

// P9.1: as many nodes as there may be, and one more.
func TestMostNodes(t *testing.T) {
	leaf := listed(0, times(1))
	many := func(n int) []api.Flat { return slices.Repeat([]api.Flat{leaf}, n) }
	mayBe(t, over(api.FUnion, many(api.MaxPlan-1)...), 0)
	mayNotBe(t, over(api.FUnion, many(api.MaxPlan)...), over(api.FUnion, many(10*api.MaxPlan)...))
	makes(t, over(api.FUnion, many(api.MaxPlan-1)...), "19999 ()")
	ten := over(api.FUnion, many(9)...)
	rest := slices.Repeat([]api.Flat{ten}, api.MaxPlan/10-1) // 19990 nodes
	mayBe(t, over(api.FUnion, append(rest, many(9)...)...), 0)
	mayNotBe(t, over(api.FUnion, append(rest, many(10)...)...), over(api.FUnion, append(rest, over(api.FNegate, leaf), over(api.FUnion, many(7)...))...))
	mayBe(t, over(api.FUnion, append(rest, over(api.FNegate, leaf), over(api.FUnion, many(6)...))...), 0)
	half := over(api.FUnion, many(api.MaxPlan/2-1)...) // 10000 nodes
	mayBe(t, joined(half, over(api.FUnion, many(api.MaxPlan/2-2)...), nil, nil), 0)
	mayNotBe(t, joined(half, half, nil, nil), let("$0", half, half), joined(half, over(api.FUnion, half), nil, nil))
}

// P9.1: as many within one another as there may be, and one more.
func TestDeepest(t *testing.T) {
	leaf := listed(0, times(1))
	deepest := chain(leaf, api.FNegate, api.MaxNest-1)
	mayBe(t, deepest, 0)
	makes(t, deepest, "-1 ()")
	mayNotBe(t, over(api.FNegate, deepest), chain(leaf, api.FNegate, 30*api.MaxNest))
	for _, n := range []int{api.MaxNest - 2, api.MaxNest - 1} {
		f := chain(leaf, api.FNegate, n)
		for _, g := range []api.Flat{
			over(api.FUnion, leaf, f, leaf), joined(leaf, f, nil, nil), joined(f, leaf, nil, nil), let("$0", leaf, f), let("$0", f, leaf), mapped(f), filtered(f, lit(yes)), columns(f), over(api.FPos, f), over(api.FDistinct, f), reduced(f, nil), top(f, 1, nil, nil), only(f),
		} {
			want := api.OK
			if n == api.MaxNest-1 {
				want = api.ErrFlat
			}
			if bad := flat.Right(g); bad != want {
				t.Errorf("%d within one of kind %d: error %d", n+1, g.Kind, bad)
			}
		}
	}
	lets := get("$1999", 0)
	for i := 1998; i >= 0; i-- { // 1999 FLets within one another, and what the last one's second Kid is
		lets = let("$"+text4(i), leaf, lets)
	}
	mayNotBe(t, lets)
	lets = get("$0000", 0)
	for i := 1998; i >= 0; i-- {
		lets = let("$"+text4(i), leaf, lets)
	}
	mayBe(t, lets, 0)
	makes(t, lets, "1 ()")
	mayNotBe(t, let("$2000", leaf, lets))
}

// text4 is a number of four digits.
func text4(n int) string {
	return string([]byte{byte('0' + n/1000), byte('0' + n/100%10), byte('0' + n/10%10), byte('0' + n%10)})
}

// P9.1: as many ECalls within one another as there may be, and one more; they do not count among the plan's nodes.
func TestDeepExpressions(t *testing.T) {
	tt := get("t", 2)
	right := func(e api.Expr) api.Expr { return call(api.OpCase, lit(yes), lit(no), e) }
	for _, wrap := range []func(api.Expr) api.Expr{func(e api.Expr) api.Expr { return e }, right} {
		deepest := wrap(nested(api.MaxNest - 1))
		if wrap(lit(yes)).Kind == api.ELit {
			deepest = nested(api.MaxNest)
		}
		mayBe(t, mapped(tt, lit(yes), deepest), 4, "t")
		mayBe(t, filtered(tt, deepest), 2, "t")
		mayBe(t, chain(mapped(tt, deepest, deepest), api.FNegate, api.MaxNest-2), 4, "t")
		mayNotBe(t, mapped(tt, call(api.OpNot, deepest)), mapped(tt, lit(yes), call(api.OpNot, deepest)), filtered(tt, call(api.OpNot, deepest)), filtered(tt, call(api.OpAnd, lit(yes), deepest)), filtered(tt, nested(30*api.MaxNest)))
	}
	wide := call(api.OpCoalesce, slices.Repeat([]api.Expr{call(api.OpIsNull, col(1))}, 3*api.MaxPlan)...)
	mayBe(t, filtered(tt, wide), 2, "t")
	makes(t, filtered(tt, wide), "1 (2, NULL)")
	makes(t, filtered(get("n", 1), nested(api.MaxNest)), "1 (1)", "1 (2)", "1 (3)")
	// What an ELit or an ECol has beside its own fields is not looked at.
	odd := lit(yes)
	odd.Kids = []api.Expr{nested(api.MaxNest + 1)}
	mayBe(t, filtered(tt, odd), 2, "t")
}

// P9.1: an ECall has as many Kids as its operator, as eval.Value takes it.
func TestOperators(t *testing.T) {
	for op := -1; op < 25; op++ {
		for n := range 6 {
			e := call(op, slices.Repeat([]api.Expr{lit(null)}, n)...)
			_, bad := eval.Value(e, nil)
			want := api.OK
			if bad == api.ErrArg {
				want = api.ErrFlat
			}
			for _, kid := range []api.Expr{lit(null), lit(text("a")), lit(integer(0)), col(1)} { // what it is worth does not matter
				e := call(op, slices.Repeat([]api.Expr{kid}, n)...)
				for _, f := range []api.Flat{mapped(get("t", 2), e), filtered(get("t", 2), e), mapped(get("t", 2), call(api.OpCoalesce, lit(yes), e))} {
					if bad := flat.Right(f); bad != want {
						t.Errorf("operator %d with %d Kids: error %d", op, n, bad)
					}
				}
			}
		}
	}
}

// P9.1: no subquery stands in a plan, wherever it stands in an expression.
func TestNoSubqueries(t *testing.T) {
	tt := get("t", 2)
	query := api.Rel{Kind: api.RMap, Exprs: []api.Expr{lit(yes)}, Kids: []api.Rel{{Kind: api.ROne}}}
	for kind := api.EExists; kind <= api.EIn; kind++ {
		e := api.Expr{Kind: kind, Subs: []api.Rel{query}, Kids: []api.Expr{lit(yes)}}
		for _, in := range []api.Expr{e, call(api.OpNot, e), call(api.OpAnd, lit(no), e), call(api.OpCase, lit(no), e, lit(yes)), call(api.OpCoalesce, lit(yes), call(api.OpIsNull, e))} {
			mayNotBe(t, mapped(tt, in), filtered(tt, in), mapped(tt, lit(yes), in))
		}
	}
	// What an ECall has beside its own fields is not looked at.
	e := call(api.OpNot, lit(yes))
	e.Subs, e.Lit, e.Level, e.Col, e.Type, e.Null = []api.Rel{query}, text("\xff"), -1, -1, -1, true
	mayBe(t, mapped(tt, e), 3, "t")
	makes(t, mapped(get("n", 1), e), "1 (1, FALSE)", "1 (2, FALSE)", "1 (3, FALSE)")
}

// P9.1: fields that a kind does not have are not looked at.
func TestOtherFields(t *testing.T) {
	odd := api.Flat{Name: "$", Width: -1, Rows: []api.Count{times(1, text("\xff"))}, Exprs: []api.Expr{{}, {Kind: 9}}, Cols: []int{-1}, More: []int{99, 1}, Desc: []bool{true}, Limit: -1, Aggs: []api.Fold{{Fn: 9}}}
	kid := listed(1, numbers(1, 1), numbers(-2, 2))
	for kind, is := range map[int]func(f *api.Flat){
		api.FGet: func(f *api.Flat) { f.Name, f.Width = "n", 1 }, api.FRows: func(f *api.Flat) { f.Width, f.Rows = 1, nil },
		api.FMap: func(f *api.Flat) { f.Exprs = nil }, api.FFilter: func(f *api.Flat) { f.Exprs = []api.Expr{lit(yes)} }, api.FCols: func(f *api.Flat) { f.Cols = []int{0} },
		api.FJoin: func(f *api.Flat) { f.Cols, f.More = nil, nil }, api.FUnion: func(*api.Flat) {}, api.FNegate: func(*api.Flat) {}, api.FPos: func(*api.Flat) {}, api.FDistinct: func(*api.Flat) {},
		api.FReduce: func(f *api.Flat) { f.Cols, f.Aggs = nil, make3() }, api.FTop: func(f *api.Flat) { f.Cols, f.More, f.Desc, f.Limit = nil, nil, nil, 9 }, api.FOne: func(f *api.Flat) { f.Cols = []int{0} }, api.FLet: func(f *api.Flat) { f.Name = "$0" },
	} {
		plain, f := api.Flat{}, odd
		for _, g := range []*api.Flat{&plain, &f} {
			g.Kind = kind
			is(g)
			switch kind {
			case api.FGet, api.FRows:
			case api.FJoin, api.FLet:
				g.Kids = []api.Flat{kid, kid}
			default:
				g.Kids = []api.Flat{kid}
			}
		}
		mayBe(t, f, flat.Width(plain), flat.Reads(plain)...)
		want, bad := flat.Eval(database(), plain)
		if bad != api.OK {
			t.Errorf("kind %d: error %d", kind, bad)
		}
		makes(t, f, show(want)...)
	}
}

// R1: plans whose nodes share lists can have more nodes than there is time for: they are refused all the same, and soon.
func TestSharedKids(t *testing.T) {
	wide, deep := get("t", 1), get("t", 1)
	for range 1000 {
		wide = over(api.FUnion, wide, wide)
	}
	for range 3000 {
		deep = over(api.FUnion, deep, deep, deep)
	}
	loop := over(api.FUnion, listed(0), listed(0))
	loop.Kids[1] = loop
	straight := over(api.FNegate, listed(0))
	straight.Kids[0] = straight
	begin := time.Now()
	mayNotBe(t, wide, deep, loop, straight, over(api.FNegate, wide), joined(get("t", 1), deep, nil, nil))
	if time.Since(begin) > 10*time.Second {
		t.Errorf("it took %v", time.Since(begin))
	}
	few := get("t", 1)
	for range 13 { // 2^14 - 1 nodes
		few = over(api.FUnion, few, few)
	}
	mayBe(t, few, 1, "t")
	mayNotBe(t, over(api.FUnion, few, few))
}
