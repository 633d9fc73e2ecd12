package eval_test

import (
	"math"
	"math/rand/v2"
	"testing"

	"freshet/api"
	"freshet/datum"
	"freshet/eval"
)

// maker makes expressions that may be, over the rows of env; subs are the values of the subqueries that it has made.
type maker struct {
	by   *rand.Rand
	env  []api.Row
	subs []api.Datum
}

func someValue(by *rand.Rand, kind int) api.Datum {
	n := pick[int64](by, 0, 0, 1, -1, 2, 10000, math.MaxInt64, math.MinInt64)
	switch kind {
	case api.Null:
		return null
	case api.Bool:
		return api.Datum{Kind: kind, I: n & 1}
	case api.Text, api.Bytes:
		return api.Datum{Kind: kind, S: pick(by, "", "a", "aß")}
	}
	return api.Datum{Kind: kind, I: n}
}

func newMaker(seed uint64) *maker {
	m := &maker{by: lot(seed)}
	for range m.by.IntN(4) {
		var r api.Row
		for range m.by.IntN(5) {
			r = append(r, someValue(m.by, m.by.IntN(6)))
		}
		m.env = append(m.env, r)
	}
	return m
}

// expr is one that is likely to be worth something of a kind; but it can be worth anything.
func (m *maker) expr(kind, depth int) api.Expr {
	if chance(m.by, 20) {
		kind = m.by.IntN(6)
	}
	if depth <= 0 || chance(m.by, 6) {
		return m.leaf(kind)
	}
	n := pick(m.by, kidsOf(api.OpCase)...)
	switch m.by.IntN(4) {
	case 0:
		var kids []api.Expr
		for i := range n {
			if i%2 == 0 && i < n-1 {
				kids = append(kids, m.expr(api.Bool, depth-2))
			} else {
				kids = append(kids, m.expr(kind, depth-2))
			}
		}
		return call(api.OpCase, kids...)
	case 1:
		var kids []api.Expr
		for range 1 + n/2 {
			kids = append(kids, m.expr(pick(m.by, kind, api.Null), depth-1))
		}
		return call(api.OpCoalesce, kids...)
	}
	return m.operation(kind, depth)
}

func (m *maker) leaf(kind int) api.Expr {
	switch m.by.IntN(5) {
	case 0, 1:
		m.subs = append(m.subs, someValue(m.by, kind))
		return pick(m.by, exists(), scalar(), in(call(api.OpAnd, exists(), col(9, 9))))
	case 2:
		if len(m.env) > 0 {
			level := m.by.IntN(len(m.env))
			if n := len(m.env[level]); n > 0 {
				return col(level, m.by.IntN(n))
			}
		}
	}
	return lit(someValue(m.by, kind))
}

func (m *maker) operation(kind, depth int) api.Expr {
	one := func(kind int) api.Expr { return m.expr(kind, depth-1) }
	switch kind {
	case api.Bool:
		of := m.by.IntN(6)
		switch m.by.IntN(4) {
		case 0:
			return call(pick(m.by, api.OpNot, api.OpIsNull), one(kind))
		case 1:
			return call(api.OpEq+m.by.IntN(6), one(of), one(of))
		}
		return call(pick(m.by, api.OpAnd, api.OpOr), one(kind), one(kind))
	case api.Int, api.Dec:
		switch m.by.IntN(4) {
		case 0:
			return call(pick(m.by, api.OpNeg, api.OpAbs, api.OpDec), one(kind))
		case 1:
			return call(api.OpLength, one(pick(m.by, api.Text, api.Bytes)))
		}
		return call(api.OpAdd+m.by.IntN(4), one(kind), one(kind))
	}
	return one(kind)
}

// outcome is a value or an error.
type outcome struct {
	d   api.Datum
	bad api.Errno
}

// filled has values in the place of all columns and subqueries.
func filled(e api.Expr, env []api.Row, subs *[]api.Datum) api.Expr {
	switch e.Kind {
	case api.ELit:
		return e
	case api.ECol:
		return lit(env[e.Level][e.Col])
	case api.ECall:
		var kids []api.Expr
		for _, kid := range e.Kids {
			kids = append(kids, filled(kid, env, subs))
		}
		return call(e.Op, kids...)
	}
	d := (*subs)[0]
	*subs = (*subs)[1:]
	return lit(d)
}

// judged is what an expression of values alone comes to: all that stands in it is worked out first, then it is seen what counts.
func judged(e api.Expr) outcome {
	if e.Kind == api.ELit {
		return outcome{e.Lit, api.OK}
	}
	var l []outcome
	for _, kid := range e.Kids {
		l = append(l, judged(kid))
	}
	switch e.Op {
	case api.OpAnd:
		if l[0] == (outcome{no, api.OK}) {
			return l[0]
		}
	case api.OpOr:
		if l[0] == (outcome{yes, api.OK}) {
			return l[0]
		}
	case api.OpCase:
		return judgedCase(l)
	case api.OpCoalesce:
		for _, o := range l {
			if o != (outcome{null, api.OK}) {
				return o
			}
		}
		return outcome{}
	}
	var args []api.Datum
	for _, o := range l {
		if o.bad != api.OK {
			return o
		}
		args = append(args, o.d)
	}
	d, bad := datum.Apply(e.Op, args...)
	return outcome{d, bad}
}

func judgedCase(l []outcome) outcome {
	switch len(l) {
	case 0:
		return outcome{}
	case 1:
		return l[0]
	}
	switch l[0] {
	case outcome{yes, api.OK}:
		return l[1]
	case outcome{no, api.OK}, outcome{null, api.OK}:
		return judgedCase(l[2:])
	}
	if l[0].bad != api.OK {
		return l[0]
	}
	return outcome{null, api.ErrType}
}

// P7.1, R6: what an expression is worth is what its parts say, as they come; asked again it is the same.
func TestSomeExpressions(t *testing.T) {
	found := map[outcome]int{}
	for seed := range uint64(60000) {
		m := newMaker(seed)
		e := m.expr(m.by.IntN(6), int(seed%7))
		subs := m.subs
		want := judged(filled(e, m.env, &subs))
		found[outcome{api.Datum{Kind: want.d.Kind}, want.bad}]++
		for range 2 {
			if got, bad := eval.Value(e, m.env, m.subs...); (outcome{got, bad}) != want {
				t.Fatalf("seed %d: %s on %v, %v: %v, error %d; want %v", seed, show(e), m.env, m.subs, got, bad, want)
			}
		}
		fails(t, api.ErrArg, e, m.env, append(m.subs, null)...)
		if n := len(m.subs); n > 0 {
			fails(t, api.ErrArg, e, m.env, m.subs[:n-1]...)
		}
	}
	for kind := api.Null; kind <= api.Bytes; kind++ {
		if found[outcome{api.Datum{Kind: kind}, api.OK}] < 1000 {
			t.Errorf("too few values of kind %d: %v", kind, found)
		}
	}
	if found[outcome{null, api.ErrEval}] < 1000 || found[outcome{null, api.ErrType}] < 1000 {
		t.Errorf("too few errors: %v", found)
	}
}

// places are all parts of an expression but those in subqueries.
func places(e *api.Expr) []*api.Expr {
	l := []*api.Expr{e}
	if e.Kind == api.ECall {
		for i := range e.Kids {
			l = append(l, places(&e.Kids[i])...)
		}
	}
	return l
}

// P7.1: whatever stands around it, one part that may not be is told ahead of all else.
func TestSomeWrongExpressions(t *testing.T) {
	for seed := range uint64(20000) {
		m := newMaker(seed)
		e := m.expr(m.by.IntN(6), int(seed%7))
		at := pick(m.by, places(&e)...)
		switch {
		case at.Kind == api.ELit:
			at.Lit = pick(m.by, wrongValues()...)
		case at.Kind == api.ECol:
			at.Level, at.Col = pick(m.by, len(m.env), -1, at.Level), pick(m.by, -1, 99)
		case at.Kind == api.ECall && chance(m.by, 2):
			at.Op = pick(m.by, 0, -1, api.OpDec+1)
		case at.Kind == api.ECall:
			at.Kids = append(at.Kids, lits(null, null)...)
			if at.Op >= api.OpCase && at.Op <= api.OpCoalesce {
				at.Kids = nil
			}
		default:
			at.Kind = pick(m.by, 0, -1, 7)
		}
		fails(t, api.ErrArg, e, m.env, m.subs...)
	}
}

// P7.1: whatever stands around it, one value of a subquery that may not be is told ahead of all else.
func TestSomeWrongSubs(t *testing.T) {
	for seed := range uint64(20000) {
		m := newMaker(seed)
		e := m.expr(m.by.IntN(6), int(seed%7))
		if len(m.subs) > 0 {
			m.subs[m.by.IntN(len(m.subs))] = pick(m.by, wrongValues()...)
			fails(t, api.ErrArg, e, m.env, m.subs...)
		}
	}
}
