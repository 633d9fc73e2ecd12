package parse

import "freshet/api"

// What the Nums of trees mean that package api has no names for.
const (
	thingTable = 1
	thingView  = 2

	setUnion     = 1
	setExcept    = 2
	setIntersect = 3

	joinInner = 1
	joinLeft  = 2
)

// things are what can be dropped, from 1 on.
func things() []string {
	return []string{"TABLE", "VIEW", "INDEX"}
}

// types are the types' words, from 1 on.
func types() []string {
	return []string{"BOOL", "INT", "DEC", "TEXT", "BYTES"}
}

// setWord is the word of a set operation.
func setWord(num int) string {
	switch num {
	case setUnion:
		return "UNION"
	case setExcept:
		return "EXCEPT"
	}
	return "INTERSECT"
}

// sign is how an operator is written.
func sign(op int) string {
	signs := [...]string{
		api.OpNeg: "-", api.OpNot: "NOT",
		api.OpAdd: "+", api.OpSub: "-", api.OpMul: "*", api.OpDiv: "/",
		api.OpEq: "=", api.OpNe: "<>", api.OpLt: "<", api.OpLe: "<=", api.OpGt: ">", api.OpGe: ">=",
		api.OpAnd: "AND", api.OpOr: "OR",
	}
	return signs[op]
}

// operands is how many of these an operator has.
func operands(op int) int {
	if op == api.OpNeg || op == api.OpNot {
		return 1
	}
	return 2
}

// parted tells whether the Kid number i of an ASet or ATop stands between parentheses, so that it is not taken for a part of what stands around it.
func parted(q api.Ast, i int) bool {
	kid := q.Kids[i]
	switch {
	case kid.Kind == api.ATop:
		return true
	case q.Kind != api.ASet || kid.Kind != api.ASet:
		return false
	}
	return i == 1 || q.Num == setIntersect && kid.Num != setIntersect
}
