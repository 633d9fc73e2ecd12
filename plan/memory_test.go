package plan_test

import (
	"reflect"
	"slices"
	"strings"
	"testing"
	"unsafe"

	"freshet/api"
	"freshet/parse"
	"freshet/plan"
)

// span is a piece of memory.
type span struct{ from, to uintptr }

// pieces are all lists, with their spare room, and all texts in something.
func pieces(v reflect.Value) []span {
	var l []span
	switch v.Kind() {
	case reflect.String:
		s := v.String()
		from := uintptr(unsafe.Pointer(unsafe.StringData(s)))
		return []span{{from, from + uintptr(len(s))}}
	case reflect.Slice:
		from := v.Pointer()
		l = append(l, span{from, from + uintptr(v.Cap())*v.Type().Elem().Size()})
		for i := range v.Len() {
			l = append(l, pieces(v.Index(i))...)
		}
	case reflect.Struct:
		for i := range v.NumField() {
			l = append(l, pieces(v.Field(i))...)
		}
	}
	return l
}

// apart asks that no two pieces of memory share any.
func apart(t *testing.T, s string, all []span) {
	t.Helper()
	all = slices.DeleteFunc(all, func(a span) bool { return a.from == a.to })
	slices.SortFunc(all, func(a, b span) int {
		if a.from < b.from {
			return -1
		}
		return 1
	})
	for i := range all[1:] {
		if all[i].to > all[i+1].from {
			t.Fatalf("%q: an answer shares memory with another one, with itself, or with what was handed in", s)
		}
	}
}

// statements have all that can be answered.
func statements() []string {
	return []string{
		"CREATE TABLE a_table (a_column INT, b_column TEXT NOT NULL)", "CREATE VIEW a_view AS SELECT a AS a_column, b, 'text' FROM t ORDER BY b DESC, a_column LIMIT 3", "CREATE INDEX an_index ON w (r, s, p)", "DROP TABLE wide",
		"INSERT INTO w VALUES (TRUE, x'616263', 1, 2), (FALSE, x'', NULL, 2.5)", "INSERT INTO t VALUES (1, 'text'), (2, 'text')", "DELETE FROM wide", "DELETE FROM t WHERE b = 'text' AND a IN (SELECT a FROM u)", "SUBSCRIBE wide",
		"SELECT x.b, 1, 'text' FROM t AS x, u LEFT JOIN w AS y ON r = 1, LATERAL (SELECT x.b, 'text' AS c) AS z WHERE EXISTS (SELECT x.b)", "SELECT *, u.a AS x FROM t, u, w",
		"SELECT DISTINCT a, b, max(b), sum(a + 1), count(*), count('text'), min(CASE WHEN b = 'text' THEN 'text' END) FROM t WHERE b IS NOT NULL GROUP BY a, b HAVING min(b) = 'text'", "SELECT * FROM wide UNION SELECT * FROM wide AS x EXCEPT SELECT * FROM wide INTERSECT ALL SELECT * FROM wide",
		"SELECT CASE WHEN p THEN r ELSE s END, coalesce(r, s), length(q), (SELECT 'text' FROM t LIMIT 1) FROM w",
	}
}

// handed are the schemas in new memory, with spare room that is marked.
func handed() []api.Schema {
	l := schemas()
	for i, s := range l {
		cols := make([]api.Col, 0, len(s.Cols)+3)
		for _, col := range s.Cols {
			col.Name = strings.Clone(col.Name)
			cols = append(cols, col)
		}
		for n := len(cols); n < cap(cols); n++ {
			cols[:cap(cols)][n].Type = -1
		}
		l[i] = api.Schema{Name: strings.Clone(s.Name), Cols: cols}
	}
	return append(make([]api.Schema, 0, len(l)+2), l...)
}

// roomy is the same tree; each list has room behind it, that is marked.
func roomy(a api.Ast) api.Ast {
	l := make([]api.Ast, len(a.Kids), len(a.Kids)+3)
	for i, kid := range a.Kids {
		l[i] = roomy(kid)
	}
	for i := range l[len(l):cap(l)] {
		l[:cap(l)][len(l)+i] = api.Ast{Kind: -1, Num: i}
	}
	a.Kids = l
	return a
}

// wholeOf are all parts of something, and the room behind each list.
func wholeOf(v reflect.Value) []any {
	var l []any
	switch v.Kind() {
	case reflect.Slice:
		v = v.Slice(0, v.Cap())
		for i := range v.Len() {
			l = append(l, wholeOf(v.Index(i))...)
		}
	case reflect.Struct:
		for i := range v.NumField() {
			l = append(l, wholeOf(v.Field(i))...)
		}
	default:
		l = append(l, v.Interface())
	}
	return l
}

// R4: what is answered is new memory, its spare room and its texts too; what is handed in is not changed, nor the room behind it.
func TestMemory(t *testing.T) {
	for _, s := range statements() {
		l, a := handed(), roomy(tree(t, s))
		before := [2][]any{wholeOf(reflect.ValueOf(l)), wholeOf(reflect.ValueOf(a))}
		c, bad := plan.Check(l, a)
		d, _ := plan.Check(l, a)
		if bad != api.OK || !reflect.DeepEqual(c, d) || !reflect.DeepEqual(c, checked(t, s)) {
			t.Errorf("%q: error %d", s, bad)
		}
		if after := [2][]any{wholeOf(reflect.ValueOf(l)), wholeOf(reflect.ValueOf(a))}; !reflect.DeepEqual(before, after) {
			t.Errorf("%q: what was handed in was changed", s)
		}
		apart(t, s, slices.Concat(pieces(reflect.ValueOf(l)), pieces(reflect.ValueOf(a)), pieces(reflect.ValueOf(c)), pieces(reflect.ValueOf(d))))
	}
}

// R5: an empty list is as good as none.
func TestEmptyLists(t *testing.T) {
	for _, s := range append(statements(), "SELECT 1", "SELECT count(*) FROM t") {
		got, bad := plan.Check(handed(), empty(tree(t, s)))
		if bad != api.OK || !reflect.DeepEqual(got, checked(t, s)) {
			t.Errorf("%q: %v, error %d", s, got, bad)
		}
	}
	if got, bad := plan.Check([]api.Schema{}, tree(t, "SELECT 1")); bad != api.OK || len(got.Reads) != 0 {
		t.Errorf("%v, error %d", got, bad)
	}
	refusesTree(t, "no columns", []api.Schema{{Name: "t", Cols: []api.Col{}}}, tree(t, "SELECT 1"), api.ErrArg)
}

// empty is the same tree with an empty list wherever there is none.
func empty(a api.Ast) api.Ast {
	l := []api.Ast{}
	for _, kid := range a.Kids {
		l = append(l, empty(kid))
	}
	a.Kids = l
	return a
}

// R1: trees of any kind of nonsense are refused as parse refuses them, or are taken.
func TestNonsense(t *testing.T) {
	ring := make([]api.Ast, 2)
	for i := range ring {
		ring[i] = api.Ast{Kind: api.ASet, Num: 1, Kids: ring}
	}
	refusesTree(t, "a ring", schemas(), ring[0], api.ErrDeep)
	for kind := -2; kind < 70; kind++ {
		for _, num := range []int{-1 << 62, -1, 0, 1, 2, 3, 15, 1 << 62} {
			for n := range 6 {
				for _, kid := range []api.Ast{{}, tree(t, "SELECT 1"), lit(api.Datum{}), {Kind: api.ATable, Name: "t"}, {Kind: api.AColumn, Name: "a"}} {
					a := api.Ast{Kind: kind, Num: num, Name: "a", Kids: slices.Repeat([]api.Ast{kid}, n)}
					for _, a := range []api.Ast{a, node(api.ASelect, node(api.AItems, node(api.AItem, a)), node(api.AFrom, a), node(api.AWhere, a), node(api.AGroup), node(api.AHaving, a))} {
						if want := parse.Right(a); want != api.OK {
							refusesTree(t, "nonsense", schemas(), a, want)
						} else {
							plan.Check(schemas(), a)
						}
					}
				}
			}
		}
	}
}

// R1: as deep as a tree may be, of every kind of node that has others within it.
func TestDeep(t *testing.T) {
	for i := range 12 {
		a := api.Ast{Kind: api.AColumn, Name: "a"}
		for {
			q := tree(t, "SELECT 1 FROM t WHERE TRUE")
			q.Kids[2].Kids[0] = op(api.OpEq, a, a)
			if parse.Right(q) != api.OK {
				break
			}
			c, bad := plan.Check(schemas(), q)
			if bad != api.OK {
				t.Fatalf("%d: error %d: %v", i, bad, a)
			}
			mustBeRight(t, "deep", c)
			a = deeper(t, i, a)
		}
	}
}

// deeper puts an INT's expression into another one.
func deeper(t *testing.T, way int, a api.Ast) api.Ast {
	q := tree(t, "SELECT 1")
	q.Kids[0].Kids[0] = node(api.AItem, a)
	lateral := tree(t, "SELECT y.x FROM u, LATERAL (SELECT 1 AS x) AS y")
	lateral.Kids[1].Kids[1].Kids[0].Kids[0].Kids[0].Kids[0] = a
	if way%2 == 1 {
		lateral.Kids[1].Kids[1].Flag = false
	}
	switch way / 2 {
	case 0:
		return op(api.OpNeg, a)
	case 1:
		return op(api.OpSub, a, lit(api.Datum{}))
	case 2:
		return node(api.AScalar, q)
	case 3:
		return node(api.ACase, node(api.AExists, q), a)
	case 4:
		return node(api.ACase, api.Ast{Kind: api.AIn, Kids: []api.Ast{a, q}}, lit(whole(1)))
	}
	return node(api.AScalar, lateral)
}
