package parse

import "freshet/api"

// form is what a kind of node has.
type form struct {
	name, alias presence
	least, most int // its Num
	flag, lit   bool
	first       []kinds // its first Kids
	more        kinds   // those behind them
	few, many   int     // how many these are
}

// kinds are some kinds of nodes, a bit each.
type kinds uint64

const (
	statements  kinds = 1<<api.ACreateTable | 1<<api.ACreateView | 1<<api.ACreateIndex | 1<<api.ADrop | 1<<api.AInsert | 1<<api.ADelete | 1<<api.ASubscribe
	queries     kinds = 1<<api.ASelect | 1<<api.ASet | 1<<api.ATop
	sources     kinds = 1<<api.ATable | 1<<api.ASub
	expressions kinds = 1<<api.ALit | 1<<api.AColumn | 1<<api.AOp | 1<<api.ACall | 1<<api.AIn | 1<<api.AExists | 1<<api.AScalar | 1<<api.ACase | 1<<api.AIsNull
)

// unbounded is more of what a tree may have.
const unbounded = api.MaxTokens

// among tells whether a kind, whatever number it is, is one of some.
func among(kind int, some kinds) bool {
	return some>>uint(kind)&1 == 1
}

// formOf is what nodes of a kind have.
func formOf(kind int) form {
	switch {
	case among(kind, expressions):
		return expressionForm(kind)
	case among(kind, queries|sources):
		return queryForm(kind)
	case kind >= api.ASelect:
		return partForm(kind)
	}
	return statementForm(kind)
}

func statementForm(kind int) form {
	switch kind {
	case api.ACreateTable:
		return form{name: always, more: 1 << api.AColDef, few: 1, many: unbounded}
	case api.ACreateView:
		return form{name: always, first: []kinds{queries}}
	case api.ACreateIndex:
		return form{name: always, alias: always, more: 1 << api.AName, few: 1, many: unbounded}
	case api.ADrop:
		return form{name: always, least: 1, most: len(things())}
	case api.AInsert:
		return form{name: always, more: 1 << api.ARow, few: 1, many: unbounded}
	case api.ADelete:
		return form{name: always, more: expressions, many: 1}
	case api.AColDef:
		return form{name: always, least: api.Bool, most: api.Bytes, flag: true}
	case api.ARow:
		return form{more: 1 << api.ALit, few: 1, many: unbounded}
	}
	return form{name: always} // ASubscribe, AName
}

func queryForm(kind int) form {
	switch kind {
	case api.ASelect:
		return form{flag: true, first: []kinds{1 << api.AItems, 1 << api.AFrom, 1 << api.AWhere, 1 << api.AGroup, 1 << api.AHaving}}
	case api.ASet:
		return form{least: setUnion, most: setIntersect, flag: true, first: []kinds{queries, queries}}
	case api.ATop:
		return form{most: api.MaxLimit, first: []kinds{queries}, more: 1 << api.AKey, many: unbounded}
	case api.ATable:
		return form{name: always, alias: perhaps}
	}
	return form{alias: always, flag: true, first: []kinds{queries}} // ASub
}

// partForm is of what a query has that is neither a query nor a source.
func partForm(kind int) form {
	switch kind {
	case api.AItems:
		return form{more: 1<<api.AStar | 1<<api.AItem, few: 1, many: unbounded}
	case api.AItem:
		return form{name: perhaps, first: []kinds{expressions}}
	case api.AFrom:
		return form{more: sources | 1<<api.AJoin, many: unbounded}
	case api.AWhere, api.AHaving:
		return form{more: expressions, many: 1}
	case api.AGroup:
		return form{flag: true, more: 1 << api.AColumn, many: unbounded}
	case api.AKey:
		return form{name: always, flag: true}
	case api.AJoin:
		return form{least: joinInner, most: joinLeft, first: []kinds{sources | 1<<api.AJoin, sources, expressions}}
	}
	return form{} // AStar
}

func expressionForm(kind int) form {
	switch kind {
	case api.ALit:
		return form{lit: true}
	case api.AColumn:
		return form{name: always, alias: perhaps}
	case api.AOp:
		return form{least: api.OpNeg, most: api.OpOr, more: expressions, few: 1, many: 2}
	case api.ACall:
		return form{name: always, flag: true, more: expressions, many: unbounded}
	case api.AIn:
		return form{flag: true, first: []kinds{expressions, queries}}
	case api.ACase:
		return form{flag: true, more: expressions, few: 2, many: unbounded}
	case api.AIsNull:
		return form{flag: true, first: []kinds{expressions}}
	}
	return form{first: []kinds{queries}} // AExists, AScalar
}
