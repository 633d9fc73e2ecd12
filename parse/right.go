package parse

import (
	"slices"
	"strings"

	"freshet/api"
	"freshet/datum"
	"freshet/lex"
)

// Right tells whether a tree is a statement's.
func Right(a api.Ast) api.Errno {
	switch {
	case deeper(a, api.MaxDepth):
		return api.ErrDeep
	case greater(a, api.MaxTokens), !among(a.Kind, statements|queries), !right(a), !areNames(names(a)):
		return api.ErrAst
	}
	return api.OK
}

// deeper tells whether a tree has more than so many nodes within one another.
func deeper(a api.Ast, most int) bool {
	return most == 0 || slices.ContainsFunc(a.Kids, func(kid api.Ast) bool { return deeper(kid, most-1) })
}

// greater tells whether a tree has more than so many nodes.
func greater(a api.Ast, most int) bool {
	return rest(a, most) < 0
}

// rest is how many of so many nodes a tree leaves; below 0, if they are not enough.
func rest(a api.Ast, most int) int {
	most--
	for _, kid := range a.Kids {
		if most < 0 {
			break
		}
		most = rest(kid, most)
	}
	return most
}

// right tells whether a node of a kind that may stand there is right, and all within it; but for what names are.
func right(a api.Ast) bool {
	f := formOf(a.Kind)
	return f.hasFields(a) && f.hasKids(a.Kids) && !slices.ContainsFunc(a.Kids, func(kid api.Ast) bool { return !right(kid) }) && agrees(a)
}

// agrees tells whether a node, of whose kind are its fields and Kids each by itself, is right as a whole.
func agrees(a api.Ast) bool {
	switch a.Kind {
	case api.AGroup:
		return a.Flag == (len(a.Kids) > 0)
	case api.AOp:
		return len(a.Kids) == operands(a.Num)
	case api.ACall:
		return !a.Flag || len(a.Kids) == 0
	case api.ACase:
		return a.Flag == (len(a.Kids)%2 == 1)
	case api.AScalar:
		return !opens(a.Kids[0])
	}
	return true
}

// opens tells whether a query's text begins with a parenthesis.
func opens(q api.Ast) bool {
	return q.Kind != api.ASelect && (parted(q, 0) || opens(q.Kids[0]))
}

func (f form) hasFields(a api.Ast) bool {
	return f.name.has(a.Name) && f.alias.has(a.Alias) &&
		f.least <= a.Num && a.Num <= f.most &&
		(f.flag || !a.Flag) &&
		(a.Lit == api.Datum{} || f.lit && datum.Right(a.Lit))
}

func (f form) hasKids(kids []api.Ast) bool {
	more := len(kids) - len(f.first)
	if more < f.few || more > f.many {
		return false
	}
	for i, kid := range kids {
		kinds := f.more
		if i < len(f.first) {
			kinds = f.first[i]
		}
		if !among(kid.Kind, kinds) {
			return false
		}
	}
	return true
}

// presence says whether there is a name.
type presence int

const (
	never   presence = 0
	perhaps presence = 1
	always  presence = 2
)

func (p presence) has(s string) bool {
	if s == "" {
		return p != always
	}
	return p != never
}

// names are all that are in a tree.
func names(a api.Ast) []string {
	var l []string
	for _, s := range [...]string{a.Name, a.Alias} {
		if s != "" {
			l = append(l, s)
		}
	}
	for _, kid := range a.Kids {
		l = append(l, names(kid)...)
	}
	return l
}

// areNames tells whether texts are names, in small letters, each alone.
func areNames(l []string) bool {
	// As many as have room in a text are looked at together: it is dear to begin one.
	for some := range slices.Chunk(l, api.MaxSql/(api.MaxName+1)) {
		tokens, bad, _ := lex.Lex(strings.Join(some, " "))
		if bad != api.OK || len(tokens) != len(some)+1 {
			return false
		}
		for i, s := range some {
			if tokens[i].Kind != api.TName || tokens[i].S != s {
				return false
			}
		}
	}
	return true
}
