package lower_test

import (
	"reflect"
	"testing"

	"freshet/api"
	"freshet/flat"
	"freshet/lower"
)

// nodes are all queries and expressions within a query.
func nodes(r *api.Rel) ([]*api.Rel, []*api.Expr) {
	rels, exprs := []*api.Rel{r}, []*api.Expr(nil)
	add := func(more []*api.Rel, others []*api.Expr) {
		rels, exprs = append(rels, more...), append(exprs, others...)
	}
	for i := range r.Kids {
		add(nodes(&r.Kids[i]))
	}
	for i := range r.Exprs {
		add(nodesOf(&r.Exprs[i]))
	}
	for i := range r.Aggs {
		for k := range r.Aggs[i].Args {
			add(nodesOf(&r.Aggs[i].Args[k]))
		}
	}
	return rels, exprs
}

func nodesOf(e *api.Expr) ([]*api.Rel, []*api.Expr) {
	rels, exprs := []*api.Rel(nil), []*api.Expr{e}
	add := func(more []*api.Rel, others []*api.Expr) {
		rels, exprs = append(rels, more...), append(exprs, others...)
	}
	for i := range e.Kids {
		add(nodesOf(&e.Kids[i]))
	}
	for i := range e.Subs {
		add(nodes(&e.Subs[i]))
	}
	return rels, exprs
}

// spoil makes a query another one, in one place, that is likely to be none that may be.
func (m *maker) spoil(r *api.Rel) {
	rels, exprs := nodes(r)
	if len(exprs) > 0 && chance(m.by, 2) {
		e := pick(m.by, exprs...)
		switch m.by.IntN(6) {
		case 0:
			e.Kind = m.by.IntN(9) - 1
		case 1:
			e.Kids = e.Kids[:m.by.IntN(len(e.Kids)+1)]
		case 2:
			e.Subs = nil
		case 3:
			e.Level, e.Col = m.by.IntN(4)-1, m.by.IntN(5)-1
		case 4:
			e.Op = m.by.IntN(24) - 1
		case 5:
			e.Lit = pick(m.by, text("\xff"), api.Datum{Kind: 9}, yes, integer(0))
		}
		return
	}
	q := pick(m.by, rels...)
	switch m.by.IntN(7) {
	case 0:
		q.Kind = m.by.IntN(14) - 1
	case 1:
		q.Kids = q.Kids[:m.by.IntN(len(q.Kids)+1)]
	case 2:
		q.Exprs = q.Exprs[:m.by.IntN(len(q.Exprs)+1)]
	case 3:
		q.Name, q.Cols, q.Limit = pick(m.by, "t", "u", "nosuch"), nil, m.by.IntN(3)-1
	case 4:
		q.Aggs = append(q.Aggs, api.Agg{Fn: m.by.IntN(8) - 1}, api.Agg{Fn: m.by.IntN(8) - 1, Args: []api.Expr{{Kind: api.ECol, Col: m.by.IntN(3)}}})
	case 5:
		q.Nums, q.Desc = append(q.Nums, m.by.IntN(6)-1), append(q.Desc, make([]bool, m.by.IntN(2))...)
	case 6:
		q.Flag, q.Lateral = !q.Flag, !q.Lateral
	}
}

// mustAnswer asks that Lower ends: in a plan that may be, or in ErrLong, with nothing beside it.
func mustAnswer(t *testing.T, s string, r api.Rel) api.Errno {
	t.Helper()
	f, bad := lower.Lower(r)
	if bad == api.OK && flat.Right(f) != api.OK || bad != api.OK && (bad != api.ErrLong || !reflect.DeepEqual(f, api.Flat{})) {
		t.Fatalf("%.2000s: %s, error %d", s, describe(f), bad)
	}
	return bad
}

// R1, R2: queries that were made others in some places have a plan, or are refused.
func TestSpoiltQueries(t *testing.T) {
	found := map[api.Errno]int{}
	for seed := range uint64(8000) {
		r, s, is := someQuery(seed+1<<41, 1+int(seed%5))
		if !is {
			continue
		}
		m := &maker{by: lot(seed + 1<<42)}
		for range 1 + m.by.IntN(4) {
			m.spoil(&r)
		}
		found[mustAnswer(t, s+", spoilt", r)]++
	}
	if found[api.OK] < 1000 || found[api.ErrLong] < 1000 {
		t.Errorf("%v", found)
	}
}
