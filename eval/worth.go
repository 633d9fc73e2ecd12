package eval

import (
	"freshet/api"
	"freshet/datum"
)

// walk goes through an expression from the left. What comes up in it is an api.Datum, the value, or an api.Errno, the first error that was met; behind an error nothing more is asked.
type walk struct {
	env  []api.Row
	subs []api.Datum // the values of the subqueries that still lie ahead
}

func (w *walk) worth(e api.Expr) any {
	switch e.Kind {
	case api.ELit:
		return e.Lit
	case api.ECol:
		return w.env[e.Level][e.Col]
	case api.ECall:
		return w.call(e)
	}
	d := w.subs[0]
	w.subs = w.subs[1:]
	return d
}

// pass leaves expressions out: their subqueries then lie behind.
func (w *walk) pass(l ...api.Expr) {
	w.subs = w.subs[subqueries(l...):]
}

func (w *walk) call(e api.Expr) any {
	switch e.Op {
	case api.OpCase:
		return w.choice(e.Kids)
	case api.OpCoalesce:
		return w.firstThere(e.Kids)
	}
	return w.operation(e.Op, e.Kids)
}

// choice is a CASE's value.
func (w *walk) choice(kids []api.Expr) any {
	for len(kids) > 1 {
		come := w.worth(kids[0])
		d, is := come.(api.Datum)
		switch {
		case !is:
			return come
		case d == truth(1):
			come = w.worth(kids[1])
			w.pass(kids[2:]...)
			return come
		case d.Kind != api.Bool && d.Kind != api.Null:
			return api.ErrType
		}
		w.pass(kids[1])
		kids = kids[2:]
	}
	if len(kids) == 1 {
		return w.worth(kids[0])
	}
	return api.Datum{}
}

// firstThere is the first value that is not NULL.
func (w *walk) firstThere(kids []api.Expr) any {
	for i, kid := range kids {
		come := w.worth(kid)
		if d, is := come.(api.Datum); !is || d.Kind != api.Null {
			w.pass(kids[i+1:]...)
			return come
		}
	}
	return api.Datum{}
}

// operation is what datum.Apply makes of all values, unless the first one of AND or OR is enough.
func (w *walk) operation(op int, kids []api.Expr) any {
	args := make([]api.Datum, len(kids))
	for i, kid := range kids {
		come := w.worth(kid)
		d, is := come.(api.Datum)
		if !is || i == 0 && settles(op, d) {
			w.pass(kids[i+1:]...)
			return come
		}
		args[i] = d
	}
	d, bad := datum.Apply(op, args...)
	if bad != api.OK {
		return bad
	}
	return d
}

// settles tells whether an operator's first value is what it makes, whatever stands behind it.
func settles(op int, first api.Datum) bool {
	return op == api.OpAnd && first == truth(0) || op == api.OpOr && first == truth(1)
}

// truth is a BOOL.
func truth(n int64) api.Datum {
	return api.Datum{Kind: api.Bool, I: n}
}
