package parse

import "freshet/api"

func (r *reader) or() api.Ast {
	return r.row(r.and, api.OpOr, api.OpOr)
}

func (r *reader) and() api.Ast {
	return r.row(r.not, api.OpAnd, api.OpAnd)
}

// row reads operands with operators from first to last between them.
func (r *reader) row(operand func() api.Ast, first, last int) api.Ast {
	a := operand()
	for {
		op := r.oneOf(sign, first, last)
		if op == 0 {
			return a
		}
		a = operation(op, a, operand())
	}
}

func operation(op int, kids ...api.Ast) api.Ast {
	return api.Ast{Kind: api.AOp, Num: op, Kids: kids}
}

func (r *reader) not() api.Ast {
	if r.take(sign(api.OpNot)) {
		return operation(api.OpNot, r.not())
	}
	return r.test()
}

func (r *reader) test() api.Ast {
	a := r.add()
	if op := r.oneOf(sign, api.OpEq, api.OpGe); op != 0 {
		return operation(op, a, r.add())
	}
	if r.take("IS") {
		flag := r.take("NOT")
		r.need("NULL")
		return api.Ast{Kind: api.AIsNull, Flag: flag, Kids: []api.Ast{a}}
	}
	flag := r.take("NOT")
	if !flag && !r.sees("IN") {
		return a
	}
	r.need("IN")
	return api.Ast{Kind: api.AIn, Flag: flag, Kids: []api.Ast{a, r.enclosed(r.query)}}
}

func (r *reader) add() api.Ast {
	return r.row(r.mul, api.OpAdd, api.OpSub)
}

func (r *reader) mul() api.Ast {
	return r.row(r.neg, api.OpMul, api.OpDiv)
}

func (r *reader) neg() api.Ast {
	switch {
	case !r.take(sign(api.OpNeg)):
		return r.prime()
	case isNumber(r.next()):
		return r.negative()
	}
	return operation(api.OpNeg, r.neg())
}

func (r *reader) prime() api.Ast {
	switch {
	case r.next().Kind == api.TValue:
		return r.value()
	case r.next().Kind == api.TName:
		return r.named()
	case r.take("EXISTS"):
		return api.Ast{Kind: api.AExists, Kids: []api.Ast{r.enclosed(r.query)}}
	case r.take("CASE"):
		return r.cases()
	case r.sees("("):
		return r.enclosed(r.group)
	}
	return r.constant()
}

// group reads what stands between the parentheses of an expression: a query only if it begins with SELECT.
func (r *reader) group() api.Ast {
	if r.sees("SELECT") {
		return api.Ast{Kind: api.AScalar, Kids: []api.Ast{r.query()}}
	}
	return r.or()
}

// cases reads what stands behind CASE.
func (r *reader) cases() api.Ast {
	r.need("WHEN")
	a := api.Ast{Kind: api.ACase, Kids: r.branch()}
	for r.take("WHEN") {
		a.Kids = append(a.Kids, r.branch()...)
	}
	if r.take("ELSE") {
		a.Flag = true
		a.Kids = append(a.Kids, r.or())
	}
	r.need("END")
	return a
}

// branch reads a condition, and the value behind THEN.
func (r *reader) branch() []api.Ast {
	condition := r.or()
	r.need("THEN")
	return []api.Ast{condition, r.or()}
}

// named reads a call, or a column.
func (r *reader) named() api.Ast {
	if r.tokens[1].S == "(" {
		return r.call()
	}
	return r.ref()
}

func (r *reader) call() api.Ast {
	a := api.Ast{Kind: api.ACall, Name: r.name()}
	r.need("(")
	if a.Flag = r.take("*"); !a.Flag && !r.sees(")") {
		a.Kids = r.list(r.or)
	}
	r.need(")")
	return a
}

func (r *reader) ref() api.Ast {
	name := r.name()
	if r.take(".") {
		return api.Ast{Kind: api.AColumn, Alias: name, Name: r.name()}
	}
	return api.Ast{Kind: api.AColumn, Name: name}
}

func (r *reader) constant() api.Ast {
	switch {
	case r.take("TRUE"):
		return lit(api.Datum{Kind: api.Bool, I: 1})
	case r.take("FALSE"):
		return lit(api.Datum{Kind: api.Bool})
	}
	r.need("NULL")
	return lit(api.Datum{})
}

func lit(d api.Datum) api.Ast {
	return api.Ast{Kind: api.ALit, Lit: d}
}

func isNumber(token api.Token) bool {
	return token.Lit.Kind == api.Int || token.Lit.Kind == api.Dec
}

// value reads a value, which is the next token, without a '-' ahead.
func (r *reader) value() api.Ast {
	d := r.next().Lit
	// An amount of 2^63 is told as less than 0.
	if d.I < 0 {
		panic(r.refuse(api.ErrDigit))
	}
	r.step()
	return lit(d)
}

// negative reads a number, which is the next token, behind its '-'.
func (r *reader) negative() api.Ast {
	d := r.next().Lit
	d.I = -d.I
	r.step()
	return lit(d)
}
