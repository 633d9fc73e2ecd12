package parse

import "freshet/api"

// statement reads all that there is.
func (r *reader) statement() api.Ast {
	a := r.command()
	r.take(";")
	if r.next().Kind != api.TEnd {
		panic(r.stray())
	}
	return a
}

func (r *reader) command() api.Ast {
	switch {
	case r.take("CREATE"):
		return r.create()
	case r.take("DROP"):
		num := r.need(things()...)
		return api.Ast{Kind: api.ADrop, Num: num, Name: r.name()}
	case r.take("INSERT"):
		return r.insertion()
	case r.take("DELETE"):
		r.need("FROM")
		name := r.name()
		return api.Ast{Kind: api.ADelete, Name: name, Kids: r.condition("WHERE")}
	case r.take("SUBSCRIBE"):
		return api.Ast{Kind: api.ASubscribe, Name: r.name()}
	}
	return r.query()
}

func (r *reader) create() api.Ast {
	thing := r.need(things()...)
	name := r.name()
	switch thing {
	case thingTable:
		return api.Ast{Kind: api.ACreateTable, Name: name, Kids: r.enclosedList(r.column)}
	case thingView:
		r.need("AS")
		return api.Ast{Kind: api.ACreateView, Name: name, Kids: []api.Ast{r.query()}}
	}
	r.need("ON")
	of := r.name()
	return api.Ast{Kind: api.ACreateIndex, Name: name, Alias: of, Kids: r.enclosedList(r.place)}
}

func (r *reader) column() api.Ast {
	name := r.name()
	a := api.Ast{Kind: api.AColDef, Name: name, Num: r.need(types()...)}
	if r.take("NOT") {
		r.need("NULL")
		a.Flag = true
	}
	return a
}

// place reads the name of an index's column.
func (r *reader) place() api.Ast {
	return api.Ast{Kind: api.AName, Name: r.name()}
}

func (r *reader) insertion() api.Ast {
	r.need("INTO")
	name := r.name()
	r.need("VALUES")
	return api.Ast{Kind: api.AInsert, Name: name, Kids: r.list(r.values)}
}

func (r *reader) values() api.Ast {
	return api.Ast{Kind: api.ARow, Kids: r.enclosedList(r.literal)}
}

func (r *reader) literal() api.Ast {
	if r.take("-") {
		if !isNumber(r.next()) {
			panic(r.stray())
		}
		return r.negative()
	}
	if r.next().Kind == api.TValue {
		return r.value()
	}
	return r.constant()
}
