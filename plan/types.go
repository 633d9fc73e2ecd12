package plan

import "freshet/api"

func isNumber(kind int) bool {
	return kind == api.Int || kind == api.Dec
}

// fit tells whether two types fit.
func fit(a, b int) bool {
	return a == b || isNumber(a) && isNumber(b) || a == api.Null || b == api.Null
}

// common is the common type of expressions; an error, if they have none.
func common(l []api.Expr) (int, api.Errno) {
	kind := api.Null
	for _, e := range l {
		if !fit(kind, e.Type) {
			return 0, api.ErrType
		}
		// Of two types that fit the greater one is that of both: DEC is above INT, and what is not known below all.
		kind = max(kind, e.Type)
	}
	return kind, api.OK
}

// alike has those of kids that stand at the places of values be of one type, and tells it.
func alike(kids []api.Expr, values []int) (int, api.Errno) {
	l := make([]api.Expr, len(values))
	for i, place := range values {
		l[i] = kids[place]
	}
	kind, bad := common(l)
	if bad != api.OK {
		return 0, bad
	}
	for _, place := range values {
		if kind == api.Dec && kids[place].Type == api.Int {
			kids[place] = operated(api.OpDec, api.Dec, kids[place])
		}
	}
	return kind, api.OK
}
