package flat_test

import (
	"math/rand/v2"
	"strconv"

	"freshet/api"
)

// maker makes plans that may be, of tables a, b, c and e, whose rows have 1, 2, 3 and 2 values.
type maker struct {
	by     *rand.Rand
	marks  []api.Flat // FGets of the marks that stand for something
	lets   int        // how many marks were given
	linear bool       // no marks, nothing but what is linear, and each table once at most
	once   map[string]int
	most   int // how many columns there are at most
}

// somePlan is a plan, and its width.
func somePlan(seed uint64, depth int) (api.Flat, int) {
	m := &maker{by: lot(seed), most: 6}
	return m.plan(depth)
}

// someTables are tables that fit.
func someTables(by *rand.Rand) []api.Filled {
	db := []api.Filled{table("a"), table("b"), table("c"), table("e"), table("a", times(1, yes, no))}
	for i := range 3 {
		for range by.IntN(6) {
			db[i].Rows = append(db[i].Rows, someRow(by, i+1, int64(by.IntN(5)-1)))
		}
	}
	return db
}

func someRow(by *rand.Rand, width int, n int64) api.Count {
	r := api.Row{}
	for range width {
		r = append(r, someValue(by))
	}
	return api.Count{Row: r, N: n}
}

func someValue(by *rand.Rand) api.Datum {
	if chance(by, 30) {
		return pick(by, yes, no, decimal(10000), text("a"), octets("a"), integer(1<<62))
	}
	return pick(by, null, integer(0), integer(1), integer(1), integer(2))
}

// leaf is a plan without Kids.
func (m *maker) leaf() (api.Flat, int) {
	if len(m.marks) > 0 && !chance(m.by, 3) {
		f := pick(m.by, m.marks...)
		return f, f.Width
	}
	width := m.by.IntN(5)
	name := []string{"", "a", "b", "c", ""}[width]
	if width == 2 && chance(m.by, 4) {
		name = "e"
	}
	if name != "" && (!m.linear || m.once[name] == 0) && !chance(m.by, 4) {
		if m.linear {
			m.once[name]++
		}
		return get(name, width), width
	}
	width = min(width, 3)
	f := listed(width)
	for range m.by.IntN(5) {
		f.Rows = append(f.Rows, someRow(m.by, width, int64(m.by.IntN(6)-2)))
	}
	return f, width
}

// places are some of so many columns.
func (m *maker) places(n, columns int) []int {
	var l []int
	for range n {
		if columns > 0 {
			l = append(l, m.by.IntN(columns))
		}
	}
	return l
}

// plan is one with at most so many more within one another.
func (m *maker) plan(depth int) (api.Flat, int) {
	if depth <= 1 {
		return m.leaf()
	}
	most := 12
	if m.linear {
		most = 6
	}
	switch m.by.IntN(most) {
	case 4:
		return m.join(depth)
	case 5:
		return m.union(depth)
	case 11:
		return m.let(depth)
	}
	return m.over(m.plan(depth - 1))
}

// over is a plan with a Kid of a width.
func (m *maker) over(kid api.Flat, k int) (api.Flat, int) {
	kinds := []int{api.FMap, api.FFilter, api.FCols, api.FNegate, api.FPos, api.FDistinct, api.FReduce, api.FTop, api.FOne}
	if m.linear {
		kinds = kinds[:4]
	}
	f := over(pick(m.by, kinds...), kid)
	switch f.Kind {
	case api.FMap:
		for range m.by.IntN(3) {
			f.Exprs = append(f.Exprs, m.expr(k, 3))
		}
		return m.narrow(f, k+len(f.Exprs))
	case api.FFilter:
		f.Exprs = []api.Expr{m.condition(k, 3)}
	case api.FCols:
		f.Cols = m.places(m.by.IntN(5), k)
		return f, len(f.Cols)
	case api.FReduce:
		f.Cols = m.places(m.by.IntN(3), k)
		for range m.by.IntN(4) {
			a := api.Fold{Fn: 1 + m.by.IntN(5)}
			if a.Fn != api.AggRows && k == 0 {
				continue
			}
			if a.Fn != api.AggRows {
				a.Col = m.by.IntN(k)
			}
			f.Aggs = append(f.Aggs, a)
		}
		return f, len(f.Cols) + len(f.Aggs)
	case api.FTop:
		f.Cols, f.More, f.Limit = m.places(m.by.IntN(3), k), m.places(m.by.IntN(3), k), m.by.IntN(5)
		for range f.More {
			f.Desc = append(f.Desc, chance(m.by, 2))
		}
	case api.FOne:
		if !chance(m.by, 3) {
			f.Kids[0] = over(api.FDistinct, kid) // else it is an error far too often
		}
		for i := range k {
			f.Cols = append(f.Cols, i)
		}
		if chance(m.by, 3) {
			f.Cols = m.places(k, k)
		}
	}
	return f, k
}

// narrow is a plan of no more than so many columns.
func (m *maker) narrow(f api.Flat, width int) (api.Flat, int) {
	if width <= m.most {
		return f, width
	}
	return columns(f, m.places(m.most, width)...), m.most
}

func (m *maker) join(depth int) (api.Flat, int) {
	a, i := m.plan(depth - 1)
	b, k := m.plan(depth - 1)
	f := joined(a, b, nil, nil)
	if i > 0 && k > 0 {
		n := m.by.IntN(3)
		f.Cols, f.More = m.places(n, i), m.places(n, k)
	}
	return m.narrow(f, i+k)
}

func (m *maker) union(depth int) (api.Flat, int) {
	first, width := m.plan(depth - 1)
	f := over(api.FUnion, first)
	for range m.by.IntN(3) {
		kid, k := m.plan(depth - 1)
		switch {
		case k == width:
		case k > 0:
			kid = columns(kid, m.places(width, k)...)
		default:
			for range width {
				kid = mapped(kid, lit(someValue(m.by)))
			}
		}
		f.Kids = append(f.Kids, kid)
	}
	return f, width
}

func (m *maker) let(depth int) (api.Flat, int) {
	first, k := m.plan(depth - 1)
	mark := "$" + strconv.Itoa(m.lets)
	m.lets++
	m.marks = append(m.marks, get(mark, k))
	second, width := m.plan(depth - 1)
	m.marks = m.marks[:len(m.marks)-1]
	return let(mark, first, second), width
}

// condition is an expression that is a BOOL, or NULL, as a rule.
func (m *maker) condition(k, depth int) api.Expr {
	if depth <= 1 || chance(m.by, 8) {
		return pick(m.by, lit(yes), lit(yes), lit(no), lit(null), m.expr(k, 1))
	}
	switch m.by.IntN(4) {
	case 0:
		return call(pick(m.by, api.OpAnd, api.OpOr), m.condition(k, depth-1), m.condition(k, depth-1))
	case 1:
		return call(pick(m.by, api.OpNot), m.condition(k, depth-1))
	case 2:
		return call(api.OpIsNull, m.expr(k, depth-1))
	}
	return call(api.OpEq+m.by.IntN(6), m.expr(k, depth-1), m.expr(k, depth-1))
}

// expr is one that is an INT, or NULL, as a rule.
func (m *maker) expr(k, depth int) api.Expr {
	if depth <= 1 || chance(m.by, 3) {
		if k > 0 && !chance(m.by, 4) {
			return col(m.by.IntN(k))
		}
		return lit(someValue(m.by))
	}
	switch m.by.IntN(5) {
	case 0:
		return call(pick(m.by, api.OpAdd, api.OpSub, api.OpMul), m.expr(k, depth-1), m.expr(k, depth-1))
	case 1:
		return call(pick(m.by, api.OpCoalesce), m.expr(k, depth-1), m.expr(k, depth-1), lit(integer(7)))
	case 2:
		return call(api.OpCase, m.condition(k, depth-1), m.expr(k, depth-1), m.expr(k, depth-1))
	case 3:
		return call(pick(m.by, api.OpNeg, api.OpAbs, api.OpDec), m.expr(k, depth-1))
	}
	return call(pick(m.by, api.OpAdd, api.OpDiv), lit(integer(4)), m.expr(k, depth-1))
}
