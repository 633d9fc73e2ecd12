package plan_test

import (
	"reflect"
	"slices"
	"testing"

	"freshet/api"
	"freshet/parse"
	"freshet/plan"
)

// someQuery is a query that may be.
func someQuery(seed uint64, depth int) api.Ast {
	m := &maker{by: lot(seed)}
	return m.query(m.kinds(1+m.by.IntN(3)), nil, depth)
}

func size(a api.Ast) int {
	n := 1
	for _, kid := range a.Kids {
		n += size(kid)
	}
	return n
}

// P6.8: queries that may be, as they come, are taken; what is checked has columns that its scopes have, and types as said; printed and parsed again it is the same.
func TestSomeQueries(t *testing.T) {
	found, printed := 0, 0
	rels := map[int]int{}
	for seed := range uint64(2000) {
		a := someQuery(seed, 1+int(seed%5))
		s, _ := parse.Print(a)
		if parse.Right(a) != api.OK {
			continue // too deep, or with too many nodes
		}
		found++
		c, bad := plan.Check(schemas(), a)
		if bad != api.OK {
			t.Fatalf("seed %d: %s: error %d", seed, s, bad)
		}
		mustBeRight(t, s, c)
		count(c.Rel, rels)
		if !slices.Equal(c.Reads, named(a)) {
			t.Fatalf("%s: reads %q; want %q", s, c.Reads, named(a))
		}
		if s == "" {
			continue
		}
		printed++
		again, _, _ := parse.Parse(s)
		if d, bad := plan.Check(schemas(), again); bad != api.OK || !reflect.DeepEqual(c, d) {
			t.Fatalf("%s: printed and parsed again: %v, error %d; want %v", s, d, bad, c)
		}
	}
	if found < 1500 || printed < 1500 {
		t.Errorf("%d queries, %d printed", found, printed)
	}
	for kind := api.RGet; kind <= api.RTop; kind++ {
		if rels[kind] < 50 {
			t.Errorf("kind %d was met %d times", kind, rels[kind])
		}
	}
}

// count counts kinds of typed queries.
func count(r api.Rel, n map[int]int) {
	n[r.Kind]++
	for _, kid := range r.Kids {
		count(kid, n)
	}
	for _, e := range r.Exprs {
		countSubs(e, n)
	}
}

func countSubs(e api.Expr, n map[int]int) {
	for _, sub := range e.Subs {
		count(sub, n)
	}
	for _, kid := range e.Kids {
		countSubs(kid, n)
	}
}

// named are the tables in a tree.
func named(a api.Ast) []string {
	var l []string
	if a.Kind == api.ATable {
		l = append(l, a.Name)
	}
	for _, kid := range a.Kids {
		l = append(l, named(kid)...)
	}
	slices.Sort(l)
	return slices.Compact(l)
}

// inOrder are the leaves of a tree (values, columns, tables, keys) in the order in which they are looked at.
func inOrder(a *api.Ast) []*api.Ast {
	switch a.Kind {
	case api.ALit, api.AColumn, api.ATable, api.AKey:
		return []*api.Ast{a}
	}
	order := make([]int, len(a.Kids))
	for i := range order {
		order[i] = i
	}
	if a.Kind == api.ASelect {
		order = []int{1, 2, 3, 0, 4} // FROM, WHERE, GROUP BY, the items, HAVING
	}
	var l []*api.Ast
	for _, i := range order {
		l = append(l, inOrder(&a.Kids[i])...)
	}
	return l
}

// spoilt makes a leaf one that is wrong, in a way of its own, and tells how it is.
func spoilt(a *api.Ast) api.Errno {
	switch a.Kind {
	case api.ATable:
		a.Name = "nosuch"
		return api.ErrTable
	case api.ALit:
		*a = call("nosuch")
		return api.ErrFunc
	}
	a.Name = "nosuch"
	return api.ErrColumn
}

func clone(a api.Ast) api.Ast {
	var kids []api.Ast
	for _, kid := range a.Kids {
		kids = append(kids, clone(kid))
	}
	a.Kids = kids
	return a
}

// P6.2, P6.3, P6.7: of some leaves that are wrong the first one, in the order that is said, is told.
func TestFirstError(t *testing.T) {
	found := map[api.Errno]int{}
	for seed := range uint64(1200) {
		right := someQuery(seed, 1+int(seed%5))
		if parse.Right(right) != api.OK {
			continue
		}
		m := &maker{by: lot(seed + 1<<32)}
		for range 4 {
			a := clone(right)
			l := inOrder(&a)
			places := []int{m.by.IntN(len(l)), m.by.IntN(len(l)), m.by.IntN(len(l))}[:1+m.by.IntN(3)]
			slices.Sort(places)
			want := spoilt(l[places[0]])
			for _, i := range slices.Compact(places)[1:] {
				spoilt(l[i])
			}
			if parse.Right(a) != api.OK {
				continue // a call in the place of a value that stood as deep as one may
			}
			found[want]++
			s, _ := parse.Print(a)
			refusesTree(t, s, schemas(), a, want)
		}
		if t.Failed() {
			t.Fatalf("seed %d", seed)
		}
	}
	for _, bad := range []api.Errno{api.ErrTable, api.ErrFunc, api.ErrColumn} {
		if found[bad] < 400 {
			t.Errorf("%v", found)
		}
	}
}

// P6.8, R6: whatever trees of names and values there are: the same is told again, what is taken is right in itself, and says the same printed and parsed again.
func TestAnyTrees(t *testing.T) {
	found := map[api.Errno]int{}
	for seed := range uint64(4000) {
		m := &maker{by: lot(seed + 1<<40)}
		a := clone(someQuery(seed%1000, 1+int(seed%4)))
		l := inOrder(&a)
		for range 1 + m.by.IntN(3) {
			leaf := pick(m.by, l...)
			switch leaf.Kind {
			case api.AColumn:
				leaf.Name, leaf.Alias = pick(m.by, "a", "b", "p", "r", "s", "c1", "y0"), pick(m.by, "", leaf.Alias, "x1", "x2")
			case api.ATable:
				leaf.Name, leaf.Alias = pick(m.by, "t", "u", "w"), pick(m.by, "", leaf.Alias, "x1", "x2")
			case api.ALit:
				leaf.Lit = someValue(m.by, m.by.IntN(6), false)
			}
		}
		if parse.Right(a) != api.OK {
			continue
		}
		s, _ := parse.Print(a)
		c, bad := plan.Check(schemas(), a)
		found[bad]++
		again, badAgain := plan.Check(schemas(), a)
		if !reflect.DeepEqual(c, again) || bad != badAgain {
			t.Fatalf("%s: error %d, then %d", s, bad, badAgain)
		}
		if bad == api.OK {
			mustBeRight(t, s, c)
		}
		if s == "" {
			continue
		}
		b, _, _ := parse.Parse(s)
		if d, badAgain := plan.Check(schemas(), b); badAgain != bad || !reflect.DeepEqual(c, d) {
			t.Fatalf("%s: error %d; printed and parsed again %d", s, bad, badAgain)
		}
	}
	for _, bad := range []api.Errno{api.OK, api.ErrType, api.ErrColumn, api.ErrAmbiguous, api.ErrTwice, api.ErrAgg} {
		if found[bad] < 10 {
			t.Errorf("error %d was met %d times: %v", bad, found[bad], found)
		}
	}
}
