package mean_test

import (
	"math/big"
	"slices"
	"sort"
	"strings"

	"freshet/api"
	"freshet/datum"
	"freshet/eval"
	"freshet/row"
)

// judge says what a query means in another way than the program: rows stand in a list as often as they are there, expressions have values put in the place of their columns and subqueries.
type judge struct {
	db   []api.Filled
	fuel int // how many expressions and rows it still looks at
}

// verdict is what a judge gives up by.
type verdict string

const (
	isError verdict = "the query is an error"
	tooMuch verdict = "it is more than the judge looks at"
)

// judged are a query's rows, in any order; or why there are none.
func judged(db []api.Filled, r api.Rel) (rows []api.Row, why verdict) {
	defer func() {
		if come := recover(); come != nil {
			rows, why = nil, come.(verdict)
		}
	}()
	j := &judge{db, 20000}
	return j.rows(r, nil), ""
}

func (j *judge) burn(n int) {
	j.fuel -= n
	if j.fuel < 0 {
		panic(tooMuch)
	}
}

// rows is what a query means within env.
func (j *judge) rows(r api.Rel, env []api.Row) []api.Row {
	j.burn(1)
	l := j.some(r, env)
	j.burn(len(l))
	return l
}

func (j *judge) some(r api.Rel, env []api.Row) []api.Row {
	switch r.Kind {
	case api.RGet:
		return j.table(r.Name)
	case api.ROne:
		return []api.Row{{}}
	case api.RJoin:
		return j.join(r, env)
	case api.RUnion:
		return append(j.rows(r.Kids[0], env), j.rows(r.Kids[1], env)...)
	case api.RExcept:
		left, right := j.rows(r.Kids[0], env), j.rows(r.Kids[1], env)
		_, rest := apart(left, right)
		return rest
	case api.RInter:
		left, right := j.rows(r.Kids[0], env), j.rows(r.Kids[1], env)
		both, _ := apart(left, right)
		return both
	}
	rows := j.rows(r.Kids[0], env)
	switch r.Kind {
	case api.RFilter:
		return slices.DeleteFunc(rows, func(one api.Row) bool { return j.value(r.Exprs[0], one, env) != yes })
	case api.RMap:
		for i, one := range rows {
			rows[i] = j.values(r.Exprs, one, env)
		}
		return rows
	case api.RGroup:
		return j.group(r, rows, env)
	case api.RDistinct:
		seen := map[string]int{}
		return slices.DeleteFunc(rows, func(one api.Row) bool { seen[row.Print(one)]++; return seen[row.Print(one)] > 1 })
	}
	return top(r, rows)
}

// table is what is there of the first table of a name.
func (j *judge) table(name string) []api.Row {
	var l []api.Row
	t := j.db[slices.IndexFunc(j.db, func(t api.Filled) bool { return t.Name == name })]
	done := map[string]int{}
	for _, c := range t.Rows {
		key := row.Print(c.Row)
		if done[key]++; done[key] > 1 {
			continue
		}
		n := int64(0)
		for _, d := range t.Rows {
			if row.Print(d.Row) == key {
				n += d.N
			}
		}
		for range max(n, 0) {
			l = append(l, c.Row)
		}
	}
	return l
}

// apart takes for each right row one left row that is the same; what is left over is the rest.
func apart(left, right []api.Row) (both, rest []api.Row) {
	n := map[string]int{}
	for _, one := range right {
		n[row.Print(one)]++
	}
	for _, one := range left {
		if key := row.Print(one); n[key] > 0 {
			n[key]--
			both = append(both, one)
		} else {
			rest = append(rest, one)
		}
	}
	return both, rest
}

func (j *judge) join(r api.Rel, env []api.Row) []api.Row {
	left := j.rows(r.Kids[0], env)
	var right, l []api.Row
	if !r.Lateral {
		right = j.rows(r.Kids[1], env)
	}
	for _, a := range left {
		if r.Lateral {
			right = j.rows(r.Kids[1], slices.Insert(slices.Clone(env), 0, a))
		}
		found := false
		for _, b := range right {
			if both := slices.Concat(a, b); j.value(r.Exprs[0], both, env) == yes {
				l, found = append(l, both), true
			}
		}
		if r.Flag && !found {
			l = append(l, slices.Concat(a, slices.Repeat(api.Row{null}, len(r.Kids[1].Cols))))
		}
	}
	return l
}

func (j *judge) group(r api.Rel, rows []api.Row, env []api.Row) []api.Row {
	members, keys := map[string][]api.Row{}, map[string]api.Row{}
	if r.Flag {
		members[row.Print(nil)], keys[row.Print(nil)] = nil, nil
	}
	for _, one := range rows {
		key := j.values(r.Exprs, one, env)
		name := row.Print(key)
		members[name], keys[name] = append(members[name], one), key
	}
	var l []api.Row
	for name, key := range keys {
		one := slices.Clone(key)
		for _, a := range r.Aggs {
			one = append(one, j.aggregate(a, members[name], env))
		}
		l = append(l, one)
	}
	return l
}

func (j *judge) aggregate(a api.Agg, rows []api.Row, env []api.Row) api.Datum {
	if a.Fn == api.AggRows {
		return integer(int64(len(rows)))
	}
	var l []api.Datum
	for _, one := range rows {
		if d := j.value(a.Args[0], one, env); d.Kind != api.Null {
			l = append(l, d)
		}
	}
	switch {
	case a.Fn == api.AggCount:
		return integer(int64(len(l)))
	case len(l) == 0:
		return null
	case a.Fn == api.AggMin:
		return slices.MinFunc(l, datum.Compare)
	case a.Fn == api.AggMax:
		return slices.MaxFunc(l, datum.Compare)
	}
	sum := new(big.Int)
	for _, d := range l {
		sum.Add(sum, big.NewInt(d.I))
	}
	if !sum.IsInt64() {
		panic(isError)
	}
	return api.Datum{Kind: a.Type, I: sum.Int64()}
}

func top(r api.Rel, rows []api.Row) []api.Row {
	sort.SliceStable(rows, func(i, k int) bool {
		for n, place := range r.Nums {
			switch order := datum.Compare(rows[i][place], rows[k][place]); {
			case order != 0 && r.Desc[n]:
				return order > 0
			case order != 0:
				return order < 0
			}
		}
		return row.Compare(rows[i], rows[k]) < 0
	})
	return rows[:min(r.Limit, len(rows))]
}

func (j *judge) values(l []api.Expr, one api.Row, env []api.Row) api.Row {
	values := api.Row{}
	for _, e := range l {
		values = append(values, j.value(e, one, env))
	}
	return values
}

// value is what an expression is worth on a row within env.
func (j *judge) value(e api.Expr, one api.Row, env []api.Row) api.Datum {
	d, bad := eval.Value(j.filled(e, slices.Insert(slices.Clone(env), 0, one)), nil)
	if bad != api.OK {
		panic(isError)
	}
	return d
}

// filled has values in the place of all columns and subqueries.
func (j *judge) filled(e api.Expr, env []api.Row) api.Expr {
	j.burn(1)
	lit := api.Expr{Kind: api.ELit}
	switch e.Kind {
	case api.ELit:
		return e
	case api.ECol:
		lit.Lit = env[e.Level][e.Col]
		return lit
	case api.ECall:
		kids := make([]api.Expr, len(e.Kids))
		for i, kid := range e.Kids {
			kids[i] = j.filled(kid, env)
		}
		return api.Expr{Kind: api.ECall, Op: e.Op, Kids: kids}
	}
	rows := j.rows(e.Subs[0], env)
	switch {
	case e.Kind == api.EExists && len(rows) > 0:
		lit.Lit = yes
	case e.Kind == api.EExists:
		lit.Lit = no
	case e.Kind == api.EScalar && len(rows) > 1:
		panic(isError)
	case e.Kind == api.EScalar && len(rows) == 1:
		lit.Lit = rows[0][0]
	case e.Kind == api.EIn:
		lit.Lit = j.isAmong(e.Kids[0], rows, env)
	}
	return lit
}

// isAmong holds a Kid against all rows, on each of which it is evaluated, all Levels in it one greater.
func (j *judge) isAmong(kid api.Expr, rows []api.Row, env []api.Row) api.Datum {
	var found []string
	for _, one := range rows {
		x := j.value(raised(kid, 0), one, env)
		same, bad := datum.Apply(api.OpEq, x, one[0])
		if bad != api.OK {
			panic(isError)
		}
		found = append(found, datum.Print(same))
	}
	switch all := strings.Join(found, " "); {
	case strings.Contains(all, "TRUE"):
		return yes
	case strings.Contains(all, "NULL"):
		return null
	}
	return no
}

// raised has all Levels of an expression one greater that are not those of its own scopes, of which there are some.
func raised(e api.Expr, own int) api.Expr {
	if e.Kind == api.ECol && e.Level >= own {
		e.Level++
	}
	kids, subs := slices.Clone(e.Kids), slices.Clone(e.Subs)
	for i, kid := range kids {
		kids[i] = raised(kid, own)
	}
	for i, sub := range subs {
		subs[i] = raisedRel(sub, own)
	}
	e.Kids, e.Subs = kids, subs
	return e
}

func raisedRel(r api.Rel, own int) api.Rel {
	exprs, aggs, kids := slices.Clone(r.Exprs), slices.Clone(r.Aggs), slices.Clone(r.Kids)
	for i, e := range exprs {
		exprs[i] = raised(e, own+1)
	}
	for i, a := range aggs {
		if len(a.Args) > 0 {
			aggs[i].Args = []api.Expr{raised(a.Args[0], own+1)}
		}
	}
	for i, kid := range kids {
		if r.Lateral && i == 1 {
			kids[i] = raisedRel(kid, own+1)
		} else {
			kids[i] = raisedRel(kid, own)
		}
	}
	r.Exprs, r.Aggs, r.Kids = exprs, aggs, kids
	return r
}
