package parse_test

import (
	"slices"
	"strings"
	"testing"
	"unsafe"

	"freshet/api"
	"freshet/parse"
)

// span is a piece of memory.
type span struct{ from, to uintptr }

func ofText(s string) span {
	from := uintptr(unsafe.Pointer(unsafe.StringData(s)))
	return span{from, from + uintptr(len(s))}
}

// ofTree are the pieces of a tree: its lists, with their spare room, and its texts.
func ofTree(a api.Ast) []span {
	from := uintptr(unsafe.Pointer(unsafe.SliceData(a.Kids)))
	all := []span{ofText(a.Name), ofText(a.Alias), ofText(a.Lit.S), {from, from + uintptr(cap(a.Kids))*unsafe.Sizeof(a)}}
	for _, kid := range a.Kids {
		all = append(all, ofTree(kid)...)
	}
	return all
}

// apart asks that no two pieces of memory share any.
func apart(t *testing.T, s string, all []span) {
	t.Helper()
	all = slices.DeleteFunc(all, func(a span) bool { return a.from == a.to })
	slices.SortFunc(all, func(a, b span) int {
		if a.from < b.from {
			return -1
		}
		return 1
	})
	for i := range all[1:] {
		if all[i].to > all[i+1].from {
			t.Fatalf("%q: an answer shares memory with another one, with itself, or with what was handed in", s)
		}
	}
}

// texts have every kind of node.
func texts() []string {
	return []string{
		"CREATE TABLE a_table (a INT NOT NULL, a TEXT, b BYTES)", "CREATE VIEW a_view AS SELECT a_view FROM a_view a_view", "CREATE INDEX a ON a (a, a, a)", "DROP TABLE a_table", "INSERT INTO t VALUES ('text', 'text', x'00', 1), ('', -1, NULL, TRUE)", "DELETE FROM t WHERE a = 'a''b' AND b IS NULL OR NOT t.c", "SUBSCRIBE a_view",
		"SELECT DISTINCT a, *, a.a AS a, count(*), f(a, 'text', f()) FROM t, t AS a, LATERAL (SELECT 1) a, b JOIN a ON a LEFT JOIN (SELECT 2) AS x ON a = b WHERE a IN (SELECT a) GROUP BY a, b.a HAVING EXISTS (SELECT a) ORDER BY a, a DESC LIMIT 1",
		"SELECT CASE WHEN a THEN 'text' WHEN b THEN 'text' ELSE (SELECT 'text' LIMIT 1) END UNION ALL SELECT a INTERSECT SELECT - - a + 1 - -1 EXCEPT (SELECT 1 LIMIT 1)",
	}
}

// R4: what is answered is new memory, its spare room and its texts too.
func TestAnswersAreNew(t *testing.T) {
	for _, s := range texts() {
		a, bad, at := parse.Parse(s)
		b, _, _ := parse.Parse(s)
		if bad != api.OK {
			t.Fatalf("%q: error %d at %d", s, bad, at)
		}
		p, _ := parse.Print(a)
		q, _ := parse.Print(a)
		apart(t, s, append(append(ofTree(a), ofTree(b)...), ofText(s), ofText(p), ofText(q)))
	}
}

// spoil writes over a tree, and the spare room behind its lists.
func spoil(a api.Ast) {
	for i := range a.Kids {
		spoil(a.Kids[i])
	}
	l := a.Kids[:cap(a.Kids)]
	for i := range l {
		l[i] = api.Ast{Kind: -1, Name: "spoilt", Num: i}
	}
}

// R4, R6: an answer does not change with another one, and is the same again.
func TestAnswersStay(t *testing.T) {
	for _, s := range texts() {
		want, _, _ := parse.Parse(s)
		other, _, _ := parse.Parse(s)
		spoil(other)
		reads(t, s, want)
	}
}

// roomy is the same tree; each list has room behind it, that is marked.
func roomy(a api.Ast) api.Ast {
	l := make([]api.Ast, len(a.Kids), len(a.Kids)+3)
	for i, kid := range a.Kids {
		l[i] = roomy(kid)
	}
	for i := range l[len(l):cap(l)] {
		l[:cap(l)][len(l)+i] = api.Ast{Kind: -1, Num: i}
	}
	a.Kids = l
	return a
}

// untouched tells whether the room behind all lists is as roomy left it.
func untouched(a api.Ast) bool {
	for i, spare := range a.Kids[len(a.Kids):cap(a.Kids)] {
		if spare.Kind != -1 || spare.Num != i || spare.Kids != nil {
			return false
		}
	}
	return !slices.ContainsFunc(a.Kids, func(kid api.Ast) bool { return !untouched(kid) })
}

// R4, R5: what is handed in is not changed, nor the room behind it; an empty list is as good as none.
func TestArgumentsStay(t *testing.T) {
	for _, s := range texts() {
		a, _, _ := parse.Parse(s)
		want, _ := parse.Print(a)
		b := roomy(a)
		got, bad := parse.Print(b)
		if got != want || bad != api.OK || parse.Right(b) != api.OK {
			t.Errorf("%q: %q, error %d; want %q", s, got, bad, want)
		}
		if !same(a, b) || !untouched(b) {
			t.Errorf("%q: the tree was changed", s)
		}
	}
}

// R2: a list without anything in it is empty, wherever nothing stands.
func TestEmptyParts(t *testing.T) {
	a, _, _ := parse.Parse("SELECT f(), g(*)")
	for i, kid := range a.Kids[1:] {
		if len(kid.Kids) != 0 || kid.Kind != api.AFrom+i {
			t.Errorf("%v", kid)
		}
	}
	for _, item := range a.Kids[0].Kids {
		if len(item.Kids[0].Kids) != 0 {
			t.Errorf("%v", item)
		}
	}
}

// R1: trees of any kind of nonsense are refused.
func TestNonsense(t *testing.T) {
	ring := make([]api.Ast, 2)
	for i := range ring {
		ring[i] = api.Ast{Kind: api.ASet, Num: 1, Kids: ring}
	}
	wrong(t, ring[0], api.ErrDeep)
	for kind := -2; kind < 70; kind++ {
		for _, num := range []int{-1 << 62, -1, 0, 1, 2, 3, 15, 1 << 62} {
			for n := range 6 {
				for _, kid := range []api.Ast{{}, one(1), null(), table("t", ""), column("a")} {
					a := api.Ast{Kind: kind, Num: num, Name: "a", Kids: slices.Repeat([]api.Ast{kid}, n)}
					parse.Print(a)
					parse.Print(asks(a))
					parse.Print(asks(exists(a)))
					parse.Print(with(one(1), api.AFrom, a))
				}
			}
		}
	}
	for _, s := range []string{"\x00", "\xff", strings.Repeat("(", 5000), "''", ".", "-", ";;"} {
		parse.Parse(s)
	}
}
