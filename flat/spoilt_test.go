package flat_test

import (
	"slices"
	"testing"

	"freshet/api"
	"freshet/datum"
	"freshet/eval"
	"freshet/flat"
	"freshet/parse"
)

// nodes are all plans and expressions within a plan.
func nodes(f *api.Flat) ([]*api.Flat, []*api.Expr) {
	plans, exprs := []*api.Flat{f}, []*api.Expr(nil)
	for i := range f.Kids {
		more, others := nodes(&f.Kids[i])
		plans, exprs = append(plans, more...), append(exprs, others...)
	}
	for i := range f.Exprs {
		exprs = append(exprs, nodesOf(&f.Exprs[i])...)
	}
	return plans, exprs
}

func nodesOf(e *api.Expr) []*api.Expr {
	l := []*api.Expr{e}
	for i := range e.Kids {
		l = append(l, nodesOf(&e.Kids[i])...)
	}
	return l
}

// own is a plan that shares no list with another one.
func own(f api.Flat) api.Flat {
	f.Kids, f.Exprs, f.Rows, f.Cols, f.More, f.Aggs = slices.Clone(f.Kids), slices.Clone(f.Exprs), slices.Clone(f.Rows), slices.Clone(f.Cols), slices.Clone(f.More), slices.Clone(f.Aggs)
	for i, kid := range f.Kids {
		f.Kids[i] = own(kid)
	}
	return f
}

// spoil makes a plan another one, in one place, that is likely to be none that may be.
func (m *maker) spoil(f *api.Flat) {
	*f = own(*f)
	plans, exprs := nodes(f)
	if len(exprs) > 0 && chance(m.by, 3) {
		e := pick(m.by, exprs...)
		switch m.by.IntN(5) {
		case 0:
			e.Kind = m.by.IntN(9) - 1
		case 1:
			e.Kids = e.Kids[:m.by.IntN(len(e.Kids)+1)]
		case 2:
			e.Level, e.Col = m.by.IntN(3)-1, m.by.IntN(5)-1
		case 3:
			e.Op = m.by.IntN(24) - 1
		case 4:
			e.Lit = pick(m.by, text("\xff"), api.Datum{Kind: 9}, yes, integer(0))
		}
		return
	}
	q := pick(m.by, plans...)
	switch m.by.IntN(9) {
	case 0:
		q.Kind = m.by.IntN(17) - 1
	case 1:
		q.Kids = q.Kids[:m.by.IntN(len(q.Kids)+1)]
	case 2:
		q.Exprs = q.Exprs[:m.by.IntN(len(q.Exprs)+1)]
	case 3:
		q.Name, q.Width, q.Limit = pick(m.by, "a", "b", "$0", "$1", "$01", "x$", "select", ""), m.by.IntN(4)-1, m.by.IntN(3)-1
	case 4:
		q.Aggs = append(q.Aggs, api.Fold{Fn: m.by.IntN(8) - 1, Col: m.by.IntN(5) - 1})
	case 5:
		q.More, q.Desc = append(q.More, m.by.IntN(6)-1), append(slices.Clone(q.Desc), make([]bool, m.by.IntN(2))...)
	case 6:
		q.Cols = append(q.Cols, m.by.IntN(6)-1)
	case 7:
		q.Kids = append(q.Kids, own(*pick(m.by, plans...)).Kids...)
	case 8:
		q.Rows = append(q.Rows, someRow(m.by, m.by.IntN(4), 1), times(1, pick(m.by, null, text("\xff"))))
	}
}

// widthOf is a plan's width as the chapter's table has it; false, if it may not be. It is for plans that are not large.
func widthOf(f api.Flat, marks map[string]int) (int, bool) {
	widths := []int{}
	for i, kid := range f.Kids {
		in := map[string]int{}
		for mark, width := range marks {
			in[mark] = width
		}
		if _, there := marks[f.Name]; f.Kind == api.FLet && i == 1 {
			if there || len(f.Name) < 2 || f.Name[0] != '$' {
				return 0, false
			}
			in[f.Name] = widths[0]
		}
		width, may := widthOf(kid, in)
		if !may {
			return 0, false
		}
		widths = append(widths, width)
	}
	wanted := map[int]int{api.FGet: 0, api.FRows: 0, api.FJoin: 2, api.FLet: 2, api.FUnion: max(1, len(widths))}
	n, is := wanted[f.Kind]
	if !is {
		n = 1
	}
	if f.Kind < api.FGet || f.Kind > api.FLet || len(widths) != n {
		return 0, false
	}
	k := 0
	if n > 0 {
		k = widths[0]
	}
	places := func(l []int, k int) bool {
		for _, p := range l {
			if p < 0 || p >= k {
				return false
			}
		}
		return true
	}
	isExpr := func(e api.Expr) bool { return isFlat(e, k) }
	switch f.Kind {
	case api.FGet:
		if width, is := marks[f.Name]; is {
			return width, width == f.Width
		}
		return f.Width, f.Width >= 0 && parse.Right(api.Ast{Kind: api.ASubscribe, Name: f.Name}) == api.OK
	case api.FRows:
		for _, c := range f.Rows {
			if len(c.Row) != f.Width || slices.ContainsFunc(c.Row, func(d api.Datum) bool { return !datum.Right(d) }) {
				return 0, false
			}
		}
		return f.Width, f.Width >= 0
	case api.FMap:
		return k + len(f.Exprs), all(f.Exprs, isExpr)
	case api.FFilter:
		return k, len(f.Exprs) == 1 && all(f.Exprs, isExpr)
	case api.FCols:
		return len(f.Cols), places(f.Cols, k)
	case api.FJoin:
		return k + widths[1], len(f.Cols) == len(f.More) && places(f.Cols, k) && places(f.More, widths[1])
	case api.FUnion:
		return k, all(widths, func(width int) bool { return width == k })
	case api.FReduce:
		return len(f.Cols) + len(f.Aggs), places(f.Cols, k) && all(f.Aggs, func(a api.Fold) bool {
			return a.Fn == api.AggRows && a.Col == 0 || a.Fn > api.AggRows && a.Fn <= api.AggMax && places([]int{a.Col}, k)
		})
	case api.FTop:
		return k, places(f.Cols, k) && places(f.More, k) && len(f.Desc) == len(f.More) && f.Limit >= 0
	case api.FOne:
		return k, places(f.Cols, k)
	case api.FLet:
		return widths[1], true
	}
	return k, true
}

func all[T any](l []T, is func(T) bool) bool {
	return !slices.ContainsFunc(l, func(one T) bool { return !is(one) })
}

// isFlat tells whether an expression is a flat one over so many columns.
func isFlat(e api.Expr, columns int) bool {
	switch e.Kind {
	case api.ELit:
		return datum.Right(e.Lit)
	case api.ECol:
		return e.Level == 0 && 0 <= e.Col && e.Col < columns
	case api.ECall:
		_, bad := eval.Value(call(e.Op, slices.Repeat([]api.Expr{lit(null)}, len(e.Kids))...), nil)
		return bad != api.ErrArg && all(e.Kids, func(kid api.Expr) bool { return isFlat(kid, columns) })
	}
	return false
}

// P9.1, R1, R2: plans that were made others in some places may be, or may not, as the table says; over tables that are others, too, they make something, or are an error.
func TestSpoiltPlans(t *testing.T) {
	found := map[api.Errno]int{}
	for seed := range uint64(20000) {
		m := &maker{by: lot(seed + 1<<42), most: 6}
		f, _ := m.plan(1 + int(seed%5))
		for range 1 + m.by.IntN(2) {
			m.spoil(&f)
		}
		width, may := widthOf(f, nil)
		if !may {
			width = 0
		}
		if bad := flat.Right(f); (bad == api.OK) != may || bad != api.OK && bad != api.ErrFlat || flat.Width(f) != width {
			t.Fatalf("seed %d: %s: error %d, width %d; want %v, %d", seed, describe(f), bad, flat.Width(f), may, width)
		}
		if names := flat.Reads(f); !may && len(names) > 0 {
			t.Fatalf("seed %d: %s: %q", seed, describe(f), names)
		}
		db := someTables(m.by)
		if chance(m.by, 4) {
			db[m.by.IntN(3)].Rows = []api.Count{someRow(m.by, m.by.IntN(4), 1), times(1, text("\xff"))}
		}
		if chance(m.by, 3) {
			db = db[m.by.IntN(3):]
		}
		got, bad := flat.Eval(db, f)
		found[bad]++
		if (bad == api.ErrFlat) == may || bad != api.OK && len(got) > 0 || !slices.Contains([]api.Errno{api.OK, api.ErrFlat, api.ErrNone, api.ErrArg, api.ErrEval}, bad) {
			t.Fatalf("seed %d: %s: %v, error %d", seed, describe(f), show(got), bad)
		}
	}
	for _, bad := range []api.Errno{api.OK, api.ErrFlat, api.ErrNone, api.ErrArg, api.ErrEval} {
		if found[bad] < 150 {
			t.Errorf("%v", found)
			break
		}
	}
}
