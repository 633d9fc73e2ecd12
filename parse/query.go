package parse

import "freshet/api"

func (r *reader) query() api.Ast {
	q := r.union()
	if !r.sees("ORDER") && !r.sees("LIMIT") {
		return q
	}
	kids := []api.Ast{q}
	if r.take("ORDER") {
		r.need("BY")
		kids = append(kids, r.list(r.key)...)
	}
	r.need("LIMIT")
	return api.Ast{Kind: api.ATop, Num: r.limit(), Kids: kids}
}

func (r *reader) key() api.Ast {
	a := api.Ast{Kind: api.AKey, Name: r.name()}
	if !r.take("ASC") {
		a.Flag = r.take("DESC")
	}
	return a
}

func (r *reader) limit() int {
	token := r.next()
	if token.Kind != api.TValue || token.Lit.Kind != api.Int {
		panic(r.stray())
	}
	// An amount of 2^63 is told as less than 0.
	if token.Lit.I < 0 || token.Lit.I > api.MaxLimit {
		panic(r.refuse(api.ErrDigit))
	}
	r.step()
	return int(token.Lit.I)
}

func (r *reader) union() api.Ast {
	return r.sets(r.inter, setUnion, setExcept)
}

func (r *reader) inter() api.Ast {
	return r.sets(r.core, setIntersect, setIntersect)
}

// sets reads queries with set operations from first to last between them.
func (r *reader) sets(one func() api.Ast, first, last int) api.Ast {
	q := one()
	for {
		num := r.oneOf(setWord, first, last)
		if num == 0 {
			return q
		}
		all := r.take("ALL")
		q = api.Ast{Kind: api.ASet, Num: num, Flag: all, Kids: []api.Ast{q, one()}}
	}
}

// oneOf goes behind the word, or the sign, of one of the numbers from first to last, and tells which; 0, if none of them stands there.
func (r *reader) oneOf(word func(num int) string, first, last int) int {
	for num := first; num <= last; num++ {
		if r.take(word(num)) {
			return num
		}
	}
	return 0
}

func (r *reader) core() api.Ast {
	if r.sees("(") {
		return r.enclosed(r.query)
	}
	r.need("SELECT")
	a := api.Ast{Kind: api.ASelect, Flag: r.take("DISTINCT")}
	items := api.Ast{Kind: api.AItems, Kids: r.list(r.item)}
	from := api.Ast{Kind: api.AFrom}
	if r.take("FROM") {
		from.Kids = r.list(r.join)
	}
	where := api.Ast{Kind: api.AWhere, Kids: r.condition("WHERE")}
	group := api.Ast{Kind: api.AGroup, Flag: r.take("GROUP")}
	if group.Flag {
		r.need("BY")
		group.Kids = r.list(r.ref)
	}
	having := api.Ast{Kind: api.AHaving, Kids: r.condition("HAVING")}
	a.Kids = []api.Ast{items, from, where, group, having}
	return a
}

// condition reads an expression behind a word; nothing, if the word does not stand there.
func (r *reader) condition(word string) []api.Ast {
	if !r.take(word) {
		return nil
	}
	return []api.Ast{r.or()}
}

func (r *reader) item() api.Ast {
	if r.take("*") {
		return api.Ast{Kind: api.AStar}
	}
	a := api.Ast{Kind: api.AItem, Kids: []api.Ast{r.or()}}
	if r.take("AS") {
		a.Name = r.name()
	}
	return a
}

func (r *reader) join() api.Ast {
	a := r.source()
	for {
		num := r.joining()
		if num == 0 {
			return a
		}
		right := r.source()
		r.need("ON")
		a = api.Ast{Kind: api.AJoin, Num: num, Kids: []api.Ast{a, right, r.or()}}
	}
}

// joining goes behind the words of a join, and tells its Num; 0, if none stands there.
func (r *reader) joining() int {
	switch {
	case r.take("JOIN"):
		return joinInner
	case r.take("INNER"):
		r.need("JOIN")
		return joinInner
	case r.take("LEFT"):
		r.need("JOIN")
		return joinLeft
	}
	return 0
}

func (r *reader) source() api.Ast {
	if r.next().Kind == api.TName {
		a := api.Ast{Kind: api.ATable, Name: r.name()}
		if r.take("AS") || r.next().Kind == api.TName {
			a.Alias = r.name()
		}
		return a
	}
	a := api.Ast{Kind: api.ASub, Flag: r.take("LATERAL")}
	a.Kids = []api.Ast{r.enclosed(r.query)}
	r.take("AS")
	a.Alias = r.name()
	return a
}
