package datum

import "freshet/api"

// Apply does an operator or a function (not OpCase, not OpCoalesce).
func Apply(op int, args ...api.Datum) (api.Datum, api.Errno) {
	n := arity(op)
	if n == 0 || len(args) != n {
		return api.Datum{}, api.ErrArg
	}
	for _, d := range args {
		if !Right(d) {
			return api.Datum{}, api.ErrArg
		}
	}
	switch op {
	case api.OpNot:
		return not(args[0])
	case api.OpAnd:
		return join(args[0], args[1], 0)
	case api.OpOr:
		return join(args[0], args[1], 1)
	case api.OpIsNull:
		return truth(isNull(args[0])), api.OK
	case api.OpNeg, api.OpAbs, api.OpDec:
		return change(op, args[0])
	case api.OpAdd, api.OpSub, api.OpMul, api.OpDiv:
		return reckon(op, args[0], args[1])
	case api.OpLength:
		return length(args[0])
	}
	return relate(op, args[0], args[1])
}

// arity is how many arguments an operator has: 0, if Apply does not do it.
func arity(op int) int {
	switch op {
	case api.OpNeg, api.OpNot, api.OpIsNull, api.OpLength, api.OpAbs, api.OpDec:
		return 1
	case api.OpAdd, api.OpSub, api.OpMul, api.OpDiv, api.OpAnd, api.OpOr,
		api.OpEq, api.OpNe, api.OpLt, api.OpLe, api.OpGt, api.OpGe:
		return 2
	}
	return 0
}

func not(a api.Datum) (api.Datum, api.Errno) {
	switch {
	case isNull(a):
		return api.Datum{}, api.OK
	case isBool(a):
		return truth(a.I == 0), api.OK
	}
	return api.Datum{}, api.ErrType
}

// join is AND and OR: strong is what one of the two alone makes of both, 0 of AND, 1 of OR.
func join(a, b api.Datum, strong int64) (api.Datum, api.Errno) {
	switch {
	case !isBool(a) && !isNull(a), !isBool(b) && !isNull(b):
		return api.Datum{}, api.ErrType
	case isBool(a) && a.I == strong, isBool(b) && b.I == strong:
		return truth(strong == 1), api.OK
	case isNull(a), isNull(b):
		return api.Datum{}, api.OK
	}
	return truth(strong == 0), api.OK
}

func length(a api.Datum) (api.Datum, api.Errno) {
	switch a.Kind {
	case api.Null:
		return api.Datum{}, api.OK
	case api.Text:
		return api.Datum{Kind: api.Int, I: runes(a.S)}, api.OK
	case api.Bytes:
		return api.Datum{Kind: api.Int, I: int64(len(a.S))}, api.OK
	}
	return api.Datum{}, api.ErrType
}

func runes(s string) int64 {
	n := int64(0)
	for range s {
		n++
	}
	return n
}

// relate does OpEq to OpGe.
func relate(op int, a, b api.Datum) (api.Datum, api.Errno) {
	switch {
	case isNull(a), isNull(b):
		return api.Datum{}, api.OK
	case isNumber(a) && isNumber(b):
		return truth(holds(op, compareNumbers(a, b))), api.OK
	case a.Kind == b.Kind:
		return truth(holds(op, Compare(a, b))), api.OK
	}
	return api.Datum{}, api.ErrType
}

// holds tells whether two that stand in an order (-1, 0, 1) are as OpEq to OpGe say.
func holds(op, order int) bool {
	switch op {
	case api.OpEq:
		return order == 0
	case api.OpNe:
		return order != 0
	case api.OpLt:
		return order < 0
	case api.OpLe:
		return order <= 0
	case api.OpGt:
		return order > 0
	}
	return order >= 0
}
