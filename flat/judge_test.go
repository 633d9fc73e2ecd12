package flat_test

import (
	"maps"
	"math/big"
	"slices"
	"sort"

	"freshet/api"
	"freshet/datum"
	"freshet/eval"
	"freshet/row"
)

// bag is how often rows are there, by their texts, none 0 times.
type bag map[string]api.Count

func (b bag) add(r api.Row, n int64) {
	key := row.Print(r)
	n += b[key].N
	b[key] = api.Count{Row: r, N: n}
	if n == 0 {
		delete(b, key)
	}
}

// list is a bag's rows, in order.
func (b bag) list() []api.Count {
	return slices.SortedFunc(maps.Values(b), func(x, y api.Count) int { return row.Compare(x.Row, y.Row) })
}

// each are the rows that are there more than 0 times, each as often as it is there, in order.
func (b bag) each() []api.Row {
	var l []api.Row
	for _, c := range b.list() {
		for range max(c.N, 0) {
			l = append(l, c.Row)
		}
	}
	return l
}

// verdict is what a judge gives up by.
type verdict string

const (
	isError verdict = "it is an error"
	tooMuch verdict = "it is more than the judge looks at"
)

// judge says what a plan makes in another way than the program: by bags, by rows one by one, and by putting what an FLet's first Kid makes in the place of its mark.
type judge struct {
	db   []api.Filled
	fuel int64
}

// judged is what a plan makes; or why there is nothing.
func judged(db []api.Filled, f api.Flat) (l []api.Count, why verdict) {
	defer func() {
		if come := recover(); come != nil {
			l, why = nil, come.(verdict)
		}
	}()
	return (&judge{db, 3000}).bag(f).list(), ""
}

func (j *judge) bag(f api.Flat) bag {
	b := j.made(f)
	for _, c := range b {
		j.fuel -= max(c.N, -c.N) / 10
	}
	j.fuel -= 1 + int64(len(b))
	if j.fuel < 0 {
		panic(tooMuch)
	}
	return b
}

func (j *judge) made(f api.Flat) bag {
	b := bag{}
	switch f.Kind {
	case api.FGet:
		for _, c := range j.db[slices.IndexFunc(j.db, func(t api.Filled) bool { return t.Name == f.Name })].Rows {
			b.add(c.Row, c.N)
		}
		maps.DeleteFunc(b, func(_ string, c api.Count) bool { return c.N < 0 })
	case api.FRows:
		for _, c := range f.Rows {
			b.add(c.Row, c.N)
		}
	case api.FUnion:
		for _, kid := range f.Kids {
			for _, c := range j.bag(kid) {
				b.add(c.Row, c.N)
			}
		}
	case api.FJoin:
		left, right := j.bag(f.Kids[0]), j.bag(f.Kids[1])
		j.fuel -= int64(len(left) * len(right) / 4)
		for _, x := range left {
			for _, y := range right {
				if row.Print(valuesAt(x.Row, f.Cols)) == row.Print(valuesAt(y.Row, f.More)) {
					b.add(slices.Concat(x.Row, y.Row), x.N*y.N)
				}
			}
		}
	case api.FLet:
		first := listed(0)
		for _, c := range j.bag(f.Kids[0]) {
			first.Rows = append(first.Rows, c)
		}
		return j.bag(replaced(f.Kids[1], f.Name, first))
	default:
		return j.over(f, j.bag(f.Kids[0]))
	}
	return b
}

// replaced is a plan in which another one stands for a mark.
func replaced(f api.Flat, mark string, by api.Flat) api.Flat {
	if f.Kind == api.FGet && f.Name == mark {
		return by
	}
	f.Kids = slices.Clone(f.Kids)
	for i, kid := range f.Kids {
		f.Kids[i] = replaced(kid, mark, by)
	}
	return f
}

func valuesAt(r api.Row, places []int) api.Row {
	var l api.Row
	for _, p := range places {
		l = append(l, r[p])
	}
	return l
}

func value(e api.Expr, r api.Row) api.Datum {
	d, bad := eval.Value(e, []api.Row{r})
	if bad != api.OK {
		panic(isError)
	}
	return d
}

func (j *judge) over(f api.Flat, kid bag) bag {
	b := bag{}
	for _, c := range kid {
		switch f.Kind {
		case api.FMap:
			r := slices.Clone(c.Row)
			for _, e := range f.Exprs {
				r = append(r, value(e, c.Row))
			}
			b.add(r, c.N)
		case api.FFilter:
			if value(f.Exprs[0], c.Row) == yes {
				b.add(c.Row, c.N)
			}
		case api.FCols:
			b.add(valuesAt(c.Row, f.Cols), c.N)
		case api.FNegate:
			b.add(c.Row, -c.N)
		}
	}
	groups := map[string][]api.Row{}
	for _, r := range kid.each() {
		switch f.Kind {
		case api.FPos:
			b.add(r, 1)
		case api.FDistinct:
			b[row.Print(r)] = api.Count{Row: r, N: 1}
		case api.FReduce, api.FTop, api.FOne:
			key := row.Print(valuesAt(r, f.Cols))
			groups[key] = append(groups[key], r)
		}
	}
	for _, group := range groups {
		switch f.Kind {
		case api.FReduce:
			r := valuesAt(group[0], f.Cols)
			for _, a := range f.Aggs {
				r = append(r, fold(a, group))
			}
			b.add(r, 1)
		case api.FTop:
			for _, r := range firsts(f, group) {
				b.add(r, 1)
			}
		case api.FOne:
			if len(group) != 1 {
				panic(isError)
			}
			b.add(group[0], 1)
		}
	}
	return b
}

func firsts(f api.Flat, group []api.Row) []api.Row {
	sort.SliceStable(group, func(i, k int) bool {
		for n, place := range f.More {
			switch order := datum.Compare(group[i][place], group[k][place]); {
			case order != 0 && f.Desc[n]:
				return order > 0
			case order != 0:
				return order < 0
			}
		}
		return row.Compare(group[i], group[k]) < 0
	})
	return group[:min(f.Limit, len(group))]
}

func fold(a api.Fold, group []api.Row) api.Datum {
	if a.Fn == api.AggRows {
		return integer(int64(len(group)))
	}
	var l []api.Datum
	for _, r := range group {
		if r[a.Col].Kind != api.Null {
			l = append(l, r[a.Col])
		}
	}
	switch {
	case a.Fn == api.AggCount:
		return integer(int64(len(l)))
	case len(l) == 0:
		return null
	case a.Fn == api.AggMin:
		return slices.MinFunc(l, datum.Compare)
	case a.Fn == api.AggMax:
		return slices.MaxFunc(l, datum.Compare)
	}
	sum := new(big.Int)
	for _, d := range l {
		if d.Kind != l[0].Kind || d.Kind != api.Int && d.Kind != api.Dec {
			panic(isError)
		}
		sum.Add(sum, big.NewInt(d.I))
	}
	if !sum.IsInt64() {
		panic(isError)
	}
	return api.Datum{Kind: l[0].Kind, I: sum.Int64()}
}
