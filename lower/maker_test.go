package lower_test

import (
	"math/rand/v2"
	"slices"
	"strconv"

	"freshet/api"
)

// manySchemas are tables with columns of all types, some of them never NULL.
func manySchemas() []api.Schema {
	return []api.Schema{
		{Name: "t", Cols: []api.Col{{Name: "a", Type: api.Int}, {Name: "b", Type: api.Text, Null: true}}},
		{Name: "u", Cols: []api.Col{{Name: "a", Type: api.Dec, Null: true}, {Name: "c", Type: api.Int, Null: true}}},
		{Name: "w", Cols: []api.Col{{Name: "p", Type: api.Bool, Null: true}, {Name: "q", Type: api.Bytes}, {Name: "r", Type: api.Int, Null: true}}},
	}
}

// someValue is one of a type, of which there are few, so that some are the same.
func someValue(by *rand.Rand, kind int) api.Datum {
	n := int64(by.IntN(3))
	switch kind {
	case api.Bool:
		return api.Datum{Kind: kind, I: n & 1}
	case api.Dec:
		return decimal(n * 5000)
	case api.Text, api.Bytes:
		return api.Datum{Kind: kind, S: pick(by, "", "a", "aß")}
	}
	return api.Datum{Kind: kind, I: n}
}

// someTables are rows for all of those tables: few, some of them more than once, some of them not there.
func someTables(by *rand.Rand) []api.Filled {
	var db []api.Filled
	for _, s := range manySchemas() {
		rows := []api.Count{}
		for range pick(by, 0, 1, 2, 2, 3, 3, 4) {
			var one api.Row
			for _, c := range s.Cols {
				if c.Null && chance(by, 3) {
					one = append(one, null)
				} else {
					one = append(one, someValue(by, c.Type))
				}
			}
			rows = append(rows, times(pick[int64](by, 1, 1, 1, 2, -1), one...))
		}
		db = append(db, table(s.Name, rows...))
	}
	return db
}

// col is a column that a maker knows; hidden: it is there, but may not be named, as it is no key.
type col struct {
	source, name string
	kind         int
	hidden       bool
}

// maker makes queries that may be: it knows which columns there are.
type maker struct {
	by   *rand.Rand
	made int // sources, each of which has a name of its own
}

func node(kind int, kids ...api.Ast) api.Ast { return api.Ast{Kind: kind, Kids: kids} }

func lit(d api.Datum) api.Ast { return api.Ast{Kind: api.ALit, Lit: d} }

func op(num int, kids ...api.Ast) api.Ast { return api.Ast{Kind: api.AOp, Num: num, Kids: kids} }

func call(name string, kids ...api.Ast) api.Ast {
	return api.Ast{Kind: api.ACall, Name: name, Kids: kids}
}

// kinds are some types, any of them.
func (m *maker) kinds(n int) []int {
	l := make([]int, n)
	for i := range l {
		l[i] = 1 + m.by.IntN(5)
	}
	return l
}

// query is one of columns of such types and names (nil: any), within scopes, the innermost first.
func (m *maker) query(kinds []int, names []string, scopes [][]col, depth int) api.Ast {
	if depth > 1 {
		switch m.by.IntN(6) {
		case 0:
			return api.Ast{Kind: api.ASet, Num: 1 + m.by.IntN(3), Flag: chance(m.by, 2), Kids: []api.Ast{m.query(kinds, names, scopes, depth-1), m.query(kinds, nil, scopes, depth-1)}}
		case 1:
			return m.top(kinds, names, scopes, depth)
		}
	}
	return m.choose(kinds, names, scopes, depth)
}

// top is a query of which the first rows are asked for.
func (m *maker) top(kinds []int, names []string, scopes [][]col, depth int) api.Ast {
	if names == nil {
		names = namesOf(kinds)
	}
	a := api.Ast{Kind: api.ATop, Num: pick(m.by, 0, 1, 1, 2, 2, 3, 5, 9), Kids: []api.Ast{m.query(kinds, names, scopes, depth-1)}}
	for range m.by.IntN(3) {
		a.Kids = append(a.Kids, api.Ast{Kind: api.AKey, Name: pick(m.by, names...), Flag: chance(m.by, 2)})
	}
	return a
}

// namesOf are n0, n1, ..
func namesOf(kinds []int) []string {
	var names []string
	for i := range kinds {
		names = append(names, "n"+strconv.Itoa(i))
	}
	return names
}

// choose is a SELECT; its columns have such names, if there are any.
func (m *maker) choose(kinds []int, names []string, scopes [][]col, depth int) api.Ast {
	from, cols := m.from(scopes, depth)
	where := node(api.AWhere)
	if chance(m.by, 2) {
		where.Kids = []api.Ast{m.condition(within2(cols, scopes), depth-1, nil)}
	}
	grouped := chance(m.by, 3)
	group, having := node(api.AGroup), node(api.AHaving)
	var aggregates []col
	if grouped {
		aggregates = slices.Clone(cols)
		if aggregates == nil {
			aggregates = []col{}
		}
		group, cols = m.group(cols)
		if chance(m.by, 2) || !group.Flag {
			having.Kids = []api.Ast{m.condition(within2(cols, scopes), depth-1, aggregates)}
		}
	}
	items := node(api.AItems)
	for i, kind := range kinds {
		item := node(api.AItem, m.expr(kind, within2(cols, scopes), depth-1, aggregates))
		if names != nil {
			item.Name = names[i]
		}
		items.Kids = append(items.Kids, item)
	}
	return api.Ast{Kind: api.ASelect, Flag: chance(m.by, 4), Kids: []api.Ast{items, from, where, group, having}}
}

// condition is one that is often true.
func (m *maker) condition(scopes [][]col, depth int, aggregates []col) api.Ast {
	a := m.expr(api.Bool, scopes, max(depth, 1), aggregates)
	switch m.by.IntN(3) {
	case 0:
		return api.Ast{Kind: api.ACase, Flag: true, Kids: []api.Ast{a, lit(no), lit(yes)}}
	case 1:
		kind := 1 + m.by.IntN(5)
		return op(api.OpOr, a, op(pick(m.by, api.OpLe, api.OpGe, api.OpEq), m.expr(kind, scopes, 0, nil), m.expr(kind, scopes, 0, nil)))
	}
	return a
}

func within2(cols []col, scopes [][]col) [][]col { return append([][]col{cols}, scopes...) }

// group is a GROUP BY of some columns, and the scope behind it.
func (m *maker) group(cols []col) (api.Ast, []col) {
	a, cols := node(api.AGroup), slices.Clone(cols)
	for i := range cols {
		cols[i].hidden = true
		if chance(m.by, 2) {
			cols[i].hidden, a.Flag = false, true
			a.Kids = append(a.Kids, api.Ast{Kind: api.AColumn, Alias: cols[i].source, Name: cols[i].name})
		}
	}
	return a, cols
}

// from is a FROM, and the columns that it has.
func (m *maker) from(scopes [][]col, depth int) (api.Ast, []col) {
	a := node(api.AFrom)
	var cols []col
	for i := range pick(m.by, 0, 1, 1, 1, 2, 2, 3) {
		left := cols
		if i == 0 {
			left = nil
		}
		part, more := m.part(left, scopes, depth)
		a.Kids, cols = append(a.Kids, part), append(slices.Clip(cols), more...)
	}
	return a, cols
}

// part is a source, or a join; left is what a lateral source sees (nil: there is nothing).
func (m *maker) part(left []col, scopes [][]col, depth int) (api.Ast, []col) {
	if depth <= 1 || !chance(m.by, 3) {
		return m.source(left, scopes, depth)
	}
	first, cols := m.part(nil, scopes, depth-1)
	second, more := m.source(cols, scopes, depth)
	cols = append(slices.Clip(cols), more...)
	return api.Ast{Kind: api.AJoin, Num: 1 + m.by.IntN(2), Kids: []api.Ast{first, second, m.condition(within2(cols, scopes), depth-1, nil)}}, cols
}

func (m *maker) source(left []col, scopes [][]col, depth int) (api.Ast, []col) {
	m.made++
	name := "x" + strconv.Itoa(m.made)
	if depth <= 1 || chance(m.by, 2) {
		s := pick(m.by, manySchemas()...)
		a := api.Ast{Kind: api.ATable, Name: s.Name, Alias: name}
		var cols []col
		for _, c := range s.Cols {
			cols = append(cols, col{name, c.Name, c.Type, false})
		}
		return a, cols
	}
	kinds := m.kinds(1 + m.by.IntN(2))
	names := namesOf(kinds)
	var cols []col
	for i, kind := range kinds {
		cols = append(cols, col{name, names[i], kind, false})
	}
	lateral := chance(m.by, 2)
	if lateral && left != nil {
		scopes = within2(left, scopes)
	}
	return api.Ast{Kind: api.ASub, Alias: name, Flag: lateral, Kids: []api.Ast{m.query(kinds, names, scopes, depth-1)}}, cols
}

// column is a column of a type, as it can be named; false, if there is none.
func (m *maker) column(kind int, scopes [][]col) (api.Ast, bool) {
	var l []api.Ast
	for level, cols := range scopes {
		for _, c := range cols {
			if c.kind != kind || c.hidden {
				continue
			}
			a := api.Ast{Kind: api.AColumn, Alias: c.source, Name: c.name}
			if chance(m.by, 2) && alone(c.name, scopes[:level+1]) {
				a.Alias = ""
			}
			l = append(l, a)
		}
	}
	if l == nil {
		return api.Ast{}, false
	}
	return pick(m.by, l...), true
}

// alone tells whether just one column of some scopes has a name.
func alone(name string, scopes [][]col) bool {
	n := 0
	for _, cols := range scopes {
		for _, c := range cols {
			if c.name == name {
				n++
			}
		}
	}
	return n == 1
}

// expr is an expression of a type; aggregates are the columns of which some may be in it (nil: none may stand there).
func (m *maker) expr(kind int, scopes [][]col, depth int, aggregates []col) api.Ast {
	if depth <= 0 || chance(m.by, 5) {
		if a, there := m.column(kind, scopes); there && !chance(m.by, 4) {
			return a
		}
		return lit(someValue(m.by, kind))
	}
	one := func(kind int) api.Ast { return m.expr(kind, scopes, depth-1, aggregates) }
	perhaps := func(kind int) api.Ast { // also NULL, where that fits
		if chance(m.by, 6) {
			return lit(api.Datum{})
		}
		return one(kind)
	}
	if chance(m.by, 2) {
		switch kind {
		case api.Bool:
			return m.truth(scopes, depth, one, perhaps)
		case api.Int, api.Dec:
			return m.number(kind, one, perhaps)
		}
	}
	switch m.by.IntN(6) {
	case 0:
		a := node(api.ACase, perhaps(api.Bool), one(kind), perhaps(api.Bool), perhaps(kind))
		if chance(m.by, 2) {
			a.Flag, a.Kids = true, append(a.Kids, perhaps(kind))
		}
		return a
	case 1:
		return call("coalesce", perhaps(kind), one(kind))
	case 2:
		return node(api.AScalar, m.single(kind, scopes, depth-1))
	case 3, 4:
		if aggregates != nil {
			return m.aggregate(kind, scopes[1:], depth, aggregates)
		}
	}
	return one(kind)
}

// single is a query that has often one row, at most.
func (m *maker) single(kind int, scopes [][]col, depth int) api.Ast {
	a := m.choose([]int{kind}, nil, scopes, depth)
	if chance(m.by, 2) {
		return api.Ast{Kind: api.ATop, Num: 1, Kids: []api.Ast{a}}
	}
	return a
}

// aggregate is one of a type.
func (m *maker) aggregate(kind int, outer [][]col, depth int, of []col) api.Ast {
	arg := func(kind int) api.Ast {
		a, there := m.column(kind, within2(of, outer))
		if !there {
			a = lit(someValue(m.by, kind))
		}
		if depth > 1 && number(kind) && chance(m.by, 2) {
			a = op(api.OpAdd, a, lit(someValue(m.by, kind)))
		}
		return a
	}
	if kind == api.Int && chance(m.by, 2) {
		return pick(m.by, api.Ast{Kind: api.ACall, Name: "count", Flag: true}, call("count", arg(1+m.by.IntN(5))))
	}
	if number(kind) && chance(m.by, 2) {
		return call("sum", arg(kind))
	}
	return call(pick(m.by, "min", "max"), arg(kind))
}

func (m *maker) truth(scopes [][]col, depth int, one, perhaps func(int) api.Ast) api.Ast {
	kind := 1 + m.by.IntN(5)
	switch m.by.IntN(6) {
	case 0:
		return op(api.OpNot, perhaps(api.Bool))
	case 1:
		return op(pick(m.by, api.OpAnd, api.OpOr), perhaps(api.Bool), perhaps(api.Bool))
	case 2:
		return api.Ast{Kind: api.AIsNull, Flag: chance(m.by, 2), Kids: []api.Ast{perhaps(kind)}}
	case 3:
		return node(api.AExists, m.query(m.kinds(1+m.by.IntN(2)), nil, scopes, depth-1))
	case 4:
		return api.Ast{Kind: api.AIn, Flag: chance(m.by, 2), Kids: []api.Ast{perhaps(kind), m.query([]int{fitting(m.by, kind)}, nil, scopes, depth-1)}}
	}
	return op(api.OpEq+m.by.IntN(6), perhaps(kind), perhaps(fitting(m.by, kind)))
}

// fitting is a type that fits one.
func fitting(by *rand.Rand, kind int) int {
	if number(kind) {
		return pick(by, api.Int, api.Dec)
	}
	return kind
}

func (m *maker) number(kind int, one, perhaps func(int) api.Ast) api.Ast {
	switch m.by.IntN(6) {
	case 0:
		return op(api.OpNeg, one(kind))
	case 1:
		return call("abs", one(kind))
	case 2:
		if kind == api.Int {
			return call("length", perhaps(pick(m.by, api.Text, api.Bytes)))
		}
		return op(api.OpMul, one(api.Int), one(api.Dec))
	case 3:
		return op(api.OpDiv, one(kind), perhaps(kind))
	}
	return op(api.OpAdd+m.by.IntN(3), one(kind), perhaps(kind))
}

func number(kind int) bool { return kind == api.Int || kind == api.Dec }
