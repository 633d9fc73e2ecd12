package plan

import "freshet/api"

// What stands for a statement that is no query: a type for each kind, with a name for each of its parts.
type (
	tableMaking struct {
		name    string
		columns []api.Ast
	}
	viewMaking struct {
		name  string
		query api.Ast
	}
	indexMaking struct {
		name, of string
		columns  []api.Ast
	}
	dropping struct {
		what int
		name string
	}
	insertion struct {
		into string
		rows []api.Ast
	}
	deletion struct {
		from  string
		where []api.Ast
	}
	subscription struct{ to string }
)

// What stands for a query.
type (
	selection struct {
		distinct                          bool
		items, from, where, group, having []api.Ast
	}
	combination struct {
		how         int
		all         bool
		left, right api.Ast
	}
	beginning struct {
		limit int
		query api.Ast
		keys  []api.Ast
	}
)

// What stands for an item.
type (
	star struct{}
	item struct {
		name string
		kid  api.Ast
	}
)

// What stands for a part of a FROM.
type (
	table struct{ name, alias string }
	inner struct {
		alias   string
		lateral bool
		query   api.Ast
	}
	joining struct {
		how             int
		left, right, on api.Ast
	}
)

// What stands for an expression.
type (
	literal   struct{ value api.Datum }
	reference struct{ source, name string }
	operation struct {
		op   int
		kids []api.Ast
	}
	nullTest struct {
		not bool
		kid api.Ast
	}
	choice     struct{ kids []api.Ast }
	membership struct {
		not        bool
		kid, query api.Ast
	}
	existence struct{ query api.Ast }
	scalar    struct{ query api.Ast }
	call      struct {
		name string
		star bool
		kids []api.Ast
	}
)

// What Num says of an ADrop, an ASet and an AJoin.
const (
	dropIndex = 3
	setUnion  = 1
	setExcept = 2
	joinLeft  = 2
)

// statementOf is what stands for a statement.
func statementOf(a api.Ast) any {
	switch a.Kind {
	case api.ACreateTable:
		return tableMaking{a.Name, a.Kids}
	case api.ACreateView:
		return viewMaking{a.Name, a.Kids[0]}
	case api.ACreateIndex:
		return indexMaking{a.Name, a.Alias, a.Kids}
	case api.ADrop:
		return dropping{a.Num, a.Name}
	case api.AInsert:
		return insertion{a.Name, a.Kids}
	case api.ADelete:
		return deletion{a.Name, a.Kids}
	case api.ASubscribe:
		return subscription{a.Name}
	}
	return queryOf(a)
}

func queryOf(a api.Ast) any {
	switch a.Kind {
	case api.ASet:
		return combination{a.Num, a.Flag, a.Kids[0], a.Kids[1]}
	case api.ATop:
		return beginning{a.Num, a.Kids[0], a.Kids[1:]}
	}
	return selection{a.Flag, a.Kids[0].Kids, a.Kids[1].Kids, a.Kids[2].Kids, a.Kids[3].Kids, a.Kids[4].Kids}
}

// partOf is what stands for a part of a FROM.
func partOf(a api.Ast) any {
	switch a.Kind {
	case api.ATable:
		return table{a.Name, a.Alias}
	case api.ASub:
		return inner{a.Alias, a.Flag, a.Kids[0]}
	}
	return joining{a.Num, a.Kids[0], a.Kids[1], a.Kids[2]}
}

func itemOf(a api.Ast) any {
	if a.Kind == api.AStar {
		return star{}
	}
	return item{a.Name, a.Kids[0]}
}

func expressionOf(a api.Ast) any {
	switch a.Kind {
	case api.ALit:
		return literal{a.Lit}
	case api.AColumn:
		return reference{a.Alias, a.Name}
	case api.AOp:
		return operation{a.Num, a.Kids}
	case api.AIsNull:
		return nullTest{a.Flag, a.Kids[0]}
	case api.ACase:
		return choice{a.Kids}
	case api.AIn:
		return membership{a.Flag, a.Kids[0], a.Kids[1]}
	case api.AExists:
		return existence{a.Kids[0]}
	case api.AScalar:
		return scalar{a.Kids[0]}
	}
	return call{a.Name, a.Flag, a.Kids}
}
