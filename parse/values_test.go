package parse_test

import (
	"math/rand/v2"
	"reflect"
	"testing"

	"freshet/api"
	"freshet/parse"
)

const least = -1 << 63

func integer(n int64) api.Ast { return lit(api.Datum{Kind: api.Int, I: n}) }

func decimal(n int64) api.Ast { return lit(api.Datum{Kind: api.Dec, I: n}) }

func text(s string) api.Ast { return lit(api.Datum{Kind: api.Text, S: s}) }

func octets(s string) api.Ast { return lit(api.Datum{Kind: api.Bytes, S: s}) }

func truth(n int64) api.Ast { return lit(api.Datum{Kind: api.Bool, I: n}) }

func null() api.Ast { return lit(api.Datum{}) }

func lit(d api.Datum) api.Ast { return api.Ast{Kind: api.ALit, Lit: d} }

func column(name string) api.Ast { return api.Ast{Kind: api.AColumn, Name: name} }

func of(alias, name string) api.Ast { return api.Ast{Kind: api.AColumn, Alias: alias, Name: name} }

func op(num int, kids ...api.Ast) api.Ast { return api.Ast{Kind: api.AOp, Num: num, Kids: kids} }

func call(name string, kids ...api.Ast) api.Ast {
	return api.Ast{Kind: api.ACall, Name: name, Kids: kids}
}

func star(name string) api.Ast { return api.Ast{Kind: api.ACall, Name: name, Flag: true} }

func in(not bool, a, q api.Ast) api.Ast {
	return api.Ast{Kind: api.AIn, Flag: not, Kids: []api.Ast{a, q}}
}

func exists(q api.Ast) api.Ast { return api.Ast{Kind: api.AExists, Kids: []api.Ast{q}} }

func scalar(q api.Ast) api.Ast { return api.Ast{Kind: api.AScalar, Kids: []api.Ast{q}} }

func cases(kids ...api.Ast) api.Ast {
	return api.Ast{Kind: api.ACase, Flag: len(kids)%2 == 1, Kids: kids}
}

func isNull(not bool, a api.Ast) api.Ast {
	return api.Ast{Kind: api.AIsNull, Flag: not, Kids: []api.Ast{a}}
}

func node(kind int, kids ...api.Ast) api.Ast { return api.Ast{Kind: kind, Kids: kids} }

func item(a api.Ast) api.Ast { return node(api.AItem, a) }

func table(name, alias string) api.Ast {
	return api.Ast{Kind: api.ATable, Name: name, Alias: alias}
}

func sub(lateral bool, q api.Ast, alias string) api.Ast {
	return api.Ast{Kind: api.ASub, Flag: lateral, Alias: alias, Kids: []api.Ast{q}}
}

func join(num int, kids ...api.Ast) api.Ast {
	return api.Ast{Kind: api.AJoin, Num: num, Kids: kids}
}

func set(num int, all bool, kids ...api.Ast) api.Ast {
	return api.Ast{Kind: api.ASet, Num: num, Flag: all, Kids: kids}
}

func top(limit int, kids ...api.Ast) api.Ast {
	return api.Ast{Kind: api.ATop, Num: limit, Kids: kids}
}

func key(name string, down bool) api.Ast { return api.Ast{Kind: api.AKey, Name: name, Flag: down} }

// query is a SELECT without DISTINCT of these items, and of nothing else.
func query(items ...api.Ast) api.Ast {
	return node(api.ASelect, node(api.AItems, items...), node(api.AFrom), node(api.AWhere), node(api.AGroup), node(api.AHaving))
}

// asks is a SELECT of one expression.
func asks(a api.Ast) api.Ast { return query(item(a)) }

// one is the shortest query: SELECT n.
func one(n int64) api.Ast { return asks(integer(n)) }

// with is a query whose part of that kind has these Kids.
func with(q api.Ast, kind int, kids ...api.Ast) api.Ast {
	q = clone(q)
	for i := range q.Kids {
		if q.Kids[i].Kind == kind {
			q.Kids[i].Kids = kids
			q.Kids[i].Flag = kind == api.AGroup
		}
	}
	return q
}

// clone is the same tree, with other lists; those without Kids are nil.
func clone(a api.Ast) api.Ast {
	var kids []api.Ast
	for _, kid := range a.Kids {
		kids = append(kids, clone(kid))
	}
	a.Kids = kids
	return a
}

func same(a, b api.Ast) bool { return reflect.DeepEqual(clone(a), clone(b)) }

// reads asks that a text has this tree.
func reads(t *testing.T, s string, want api.Ast) {
	t.Helper()
	got, bad, at := parse.Parse(s)
	if bad != api.OK || at != 0 || !same(got, want) {
		t.Errorf("%.200q: %v, error %d at %d; want %v", s, got, bad, at, want)
	}
}

// refuses asks that a text has this error, and no tree.
func refuses(t *testing.T, s string, want api.Errno, place int) {
	t.Helper()
	got, bad, at := parse.Parse(s)
	if bad != want || at != place || !same(got, api.Ast{}) {
		t.Errorf("%.200q: %v, error %d at %d; want error %d at %d", s, got, bad, at, want, place)
	}
}

// stray asks that a text has ErrToken at the place where the second piece begins; ErrEnd at the end, if there is none.
func stray(t *testing.T, ahead, behind string) {
	t.Helper()
	if behind == "" {
		refuses(t, ahead, api.ErrEnd, len(ahead))
	} else {
		refuses(t, ahead+behind, api.ErrToken, len(ahead))
	}
}

// prints asks that a tree has this text, which has that tree.
func prints(t *testing.T, a api.Ast, want string) {
	t.Helper()
	if bad := parse.Right(a); bad != api.OK {
		t.Errorf("%q: error %d of the tree", want, bad)
	}
	if got, bad := parse.Print(a); got != want || bad != api.OK {
		t.Errorf("%q, error %d; want %q", got, bad, want)
	}
	reads(t, want, a)
}

// wrong asks that a tree has this error, and no text.
func wrong(t *testing.T, a api.Ast, want api.Errno) {
	t.Helper()
	if bad := parse.Right(a); bad != want {
		t.Errorf("%.500v: error %d; want %d", a, bad, want)
	}
	if got, bad := parse.Print(a); got != "" || bad != want {
		t.Errorf("%.500v: printed %q, error %d; want %d", a, got, bad, want)
	}
}

// lot draws numbers, the same ones at each run.
func lot(seed uint64) *rand.Rand { return rand.New(rand.NewPCG(5, seed)) }

func chance(by *rand.Rand, n int) bool { return by.IntN(n) == 0 }

func pick[T any](by *rand.Rand, l ...T) T { return l[by.IntN(len(l))] }
