package parse_test

import (
	"math/rand/v2"
	"strings"

	"freshet/api"
)

func someName(by *rand.Rand) string {
	return pick(by, "a", "b", "c1", "_", "t", "x", "count", "abcdefghij_123456789", "selects", "_0")
}

func someDatum(by *rand.Rand) api.Datum {
	n := pick[int64](by, 0, 1, -1, 7, 10000, -15001, 1<<63-1, least, least+1)
	switch by.IntN(6) {
	case api.Bool:
		return api.Datum{Kind: api.Bool, I: n & 1}
	case api.Int:
		return api.Datum{Kind: api.Int, I: n}
	case api.Dec:
		return api.Datum{Kind: api.Dec, I: n}
	case api.Text:
		return api.Datum{Kind: api.Text, S: pick(by, "", "a", "'", "it''s", "--\n", ", ( ) .", "ß\x00", "SELECT", strings.Repeat("'", 30))}
	case api.Bytes:
		return api.Datum{Kind: api.Bytes, S: pick(by, "", "\x00", "\xff'", "abc")}
	}
	return api.Datum{}
}

// some is a row of n or more that a function tells, in a list of its own.
func some(by *rand.Rand, n int, one func() api.Ast) []api.Ast {
	var l []api.Ast
	for range n + by.IntN(3) {
		l = append(l, one())
	}
	return l
}

// someStatement is a statement's tree, not much deeper than a depth.
func someStatement(by *rand.Rand, depth int) api.Ast {
	name := someName(by)
	switch by.IntN(12) {
	case 0:
		return api.Ast{Kind: api.ACreateTable, Name: name, Kids: some(by, 1, func() api.Ast {
			return api.Ast{Kind: api.AColDef, Name: someName(by), Num: 1 + by.IntN(5), Flag: chance(by, 2)}
		})}
	case 1:
		return api.Ast{Kind: api.ACreateView, Name: name, Kids: []api.Ast{someQuery(by, depth)}}
	case 2:
		return api.Ast{Kind: api.ACreateIndex, Name: name, Alias: someName(by), Kids: some(by, 1, func() api.Ast { return api.Ast{Kind: api.AName, Name: someName(by)} })}
	case 3:
		return api.Ast{Kind: api.ADrop, Num: 1 + by.IntN(3), Name: name}
	case 4:
		return api.Ast{Kind: api.AInsert, Name: name, Kids: some(by, 1, func() api.Ast {
			return node(api.ARow, some(by, 1, func() api.Ast { return lit(someDatum(by)) })...)
		})}
	case 5:
		return api.Ast{Kind: api.ADelete, Name: name, Kids: perhaps(by, depth)}
	case 6:
		return api.Ast{Kind: api.ASubscribe, Name: name}
	}
	return someQuery(by, depth)
}

// perhaps is an expression, or nothing.
func perhaps(by *rand.Rand, depth int) []api.Ast {
	if chance(by, 2) {
		return nil
	}
	return []api.Ast{someExpression(by, depth)}
}

func someQuery(by *rand.Rand, depth int) api.Ast {
	if depth > 0 {
		switch by.IntN(5) {
		case 0, 1:
			return set(1+by.IntN(3), chance(by, 2), someQuery(by, depth-1), someQuery(by, depth-1))
		case 2:
			keys := some(by, 0, func() api.Ast { return key(someName(by), chance(by, 2)) })
			return top(pick(by, 0, 1, 20, api.MaxLimit), append([]api.Ast{someQuery(by, depth-1)}, keys...)...)
		}
	}
	q := query(some(by, 1, func() api.Ast {
		if chance(by, 4) {
			return node(api.AStar)
		}
		a := item(someExpression(by, depth-1))
		if chance(by, 2) {
			a.Name = someName(by)
		}
		return a
	})...)
	q.Flag = chance(by, 4)
	q.Kids[1].Kids = some(by, 0, func() api.Ast { return someSource(by, depth-1, true) })
	q.Kids[2].Kids = perhaps(by, depth-1)
	if chance(by, 3) {
		q.Kids[3] = api.Ast{Kind: api.AGroup, Flag: true, Kids: some(by, 1, func() api.Ast { return someColumn(by) })}
	}
	q.Kids[4].Kids = perhaps(by, depth-2)
	return q
}

// someSource is a source, or a join, if that may stand there.
func someSource(by *rand.Rand, depth int, joined bool) api.Ast {
	switch by.IntN(3) {
	case 0:
		if joined && depth > 0 {
			return join(1+by.IntN(2), someSource(by, depth-1, true), someSource(by, depth-1, false), someExpression(by, depth-1))
		}
	case 1:
		if depth > 0 {
			return sub(chance(by, 2), someQuery(by, depth-1), someName(by))
		}
	}
	return table(someName(by), pick(by, "", someName(by)))
}

func someColumn(by *rand.Rand) api.Ast { return of(pick(by, "", someName(by)), someName(by)) }

func someExpression(by *rand.Rand, depth int) api.Ast {
	if depth <= 0 {
		return pick(by, someColumn(by), lit(someDatum(by)))
	}
	one := func() api.Ast { return someExpression(by, depth-1) }
	switch by.IntN(11) {
	case 0, 1:
		return op(api.OpAdd+by.IntN(12), one(), one())
	case 2:
		return op(1+by.IntN(2), one())
	case 3:
		if chance(by, 3) {
			return star(someName(by))
		}
		return call(someName(by), some(by, 0, one)...)
	case 4:
		return in(chance(by, 2), one(), someQuery(by, depth-1))
	case 5:
		return exists(someQuery(by, depth-1))
	case 6:
		return scalar(unopened(someQuery(by, depth-1)))
	case 7:
		return cases(some(by, 2, one)...)
	case 8:
		return isNull(chance(by, 2), one())
	case 9:
		return lit(someDatum(by))
	}
	return someColumn(by)
}

// unopened is a query, or one of those that it is made of, the first one the text of which begins with SELECT.
func unopened(q api.Ast) api.Ast {
	for a := q; a.Kind != api.ASelect; a = a.Kids[0] {
		if first := a.Kids[0]; first.Kind == api.ATop || a.Num == 3 && a.Kind == api.ASet && first.Kind == api.ASet && first.Num != 3 {
			return unopened(first)
		}
	}
	return q
}
