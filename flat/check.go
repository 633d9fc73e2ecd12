package flat

import (
	"slices"
	"strings"

	"freshet/api"
	"freshet/datum"
	"freshet/eval"
	"freshet/parse"
)

// unlike stands for the width of a table of which a plan has FGets of more than one width: no row has it.
const unlike = -1

// look goes through a plan: its width, the widths of the tables that it names, and whether it may be; if not, it tells nothing else.
func look(f api.Flat) (width int, tables map[string]int, may bool) {
	if rest(f, api.MaxPlan, api.MaxNest) < 0 {
		return 0, nil, false
	}
	c := &checker{marks: map[string]int{}, tables: map[string]int{}}
	c.forms = formsOf(c)
	width, may = c.width(f)
	if !may {
		return 0, nil, false
	}
	return width, c.tables, true
}

// rest is how many of so many nodes a plan leaves; below 0, if it has more of them, or more than nest within one another. It looks at no more than that, as nodes that share lists can be far more than there is memory for.
func rest(f api.Flat, nodes, nest int) int {
	if nest == 0 {
		return -1
	}
	nodes--
	for _, kid := range f.Kids {
		if nodes < 0 {
			break
		}
		nodes = rest(kid, nodes, nest-1)
	}
	return nodes
}

// form is what a kind of plan asks for: how many Kids, and all else that its check looks at, which tells its width, and whether it may be.
type form struct {
	few, many int
	check     func(f api.Flat) (int, bool)
}

// checker goes through a plan.
type checker struct {
	forms  map[int]form
	marks  map[string]int // the widths that the marks stand for at the place that is looked at
	tables map[string]int // the widths of the tables that were met
}

func formsOf(c *checker) map[int]form {
	return map[int]form{
		api.FGet:  {0, 0, c.get},
		api.FRows: {0, 0, listed},
		api.FMap: {1, 1, c.over(func(f api.Flat, k int) (int, bool) {
			return k + len(f.Exprs), areFlat(f.Exprs, k)
		})},
		api.FFilter: {1, 1, c.over(func(f api.Flat, k int) (int, bool) {
			return k, len(f.Exprs) == 1 && areFlat(f.Exprs, k)
		})},
		api.FCols: {1, 1, c.over(func(f api.Flat, k int) (int, bool) {
			return len(f.Cols), arePlaces(f.Cols, k)
		})},
		api.FJoin:     {2, 2, c.join},
		api.FUnion:    {1, api.MaxPlan, c.union},
		api.FNegate:   {1, 1, c.over(anyway)},
		api.FPos:      {1, 1, c.over(anyway)},
		api.FDistinct: {1, 1, c.over(anyway)},
		api.FReduce: {1, 1, c.over(func(f api.Flat, k int) (int, bool) {
			return len(f.Cols) + len(f.Aggs), arePlaces(f.Cols, k) && areFolds(f.Aggs, k)
		})},
		api.FTop: {1, 1, c.over(func(f api.Flat, k int) (int, bool) {
			return k, arePlaces(f.Cols, k) && arePlaces(f.More, k) && len(f.Desc) == len(f.More) && f.Limit >= 0
		})},
		api.FOne: {1, 1, c.over(func(f api.Flat, k int) (int, bool) {
			return k, arePlaces(f.Cols, k)
		})},
		api.FLet: {2, 2, c.let},
	}
}

// width is a plan's, and whether it may be.
func (c *checker) width(f api.Flat) (int, bool) {
	form, is := c.forms[f.Kind]
	if !is || len(f.Kids) < form.few || len(f.Kids) > form.many {
		return 0, false
	}
	width, may := form.check(f)
	return width, may && 0 <= width && width <= api.MaxWidth
}

// over is the check of a plan that has one Kid: check is told that one's width.
func (c *checker) over(check func(f api.Flat, k int) (int, bool)) func(api.Flat) (int, bool) {
	return func(f api.Flat) (int, bool) {
		k, may := c.width(f.Kids[0])
		if !may {
			return 0, false
		}
		return check(f, k)
	}
}

// anyway is the check of what asks for nothing but its Kid.
func anyway(_ api.Flat, k int) (int, bool) {
	return k, true
}

func (c *checker) get(f api.Flat) (int, bool) {
	if width, is := c.marks[f.Name]; is {
		return width, f.Width == width
	}
	width, met := c.tables[f.Name]
	if !met && !isName(f.Name) {
		return 0, false
	}
	c.tables[f.Name] = f.Width
	if met && width != f.Width {
		c.tables[f.Name] = unlike
	}
	return f.Width, true
}

func listed(f api.Flat) (int, bool) {
	return f.Width, !slices.ContainsFunc(f.Rows, func(c api.Count) bool { return !fits(c.Row, f.Width) })
}

// fits tells whether a row has so many values, and each may be.
func fits(r api.Row, width int) bool {
	return len(r) == width && !slices.ContainsFunc(r, func(d api.Datum) bool { return !datum.Right(d) })
}

func (c *checker) join(f api.Flat) (int, bool) {
	a, may := c.width(f.Kids[0])
	if !may {
		return 0, false
	}
	b, may := c.width(f.Kids[1])
	return a + b, may && len(f.Cols) == len(f.More) && arePlaces(f.Cols, a) && arePlaces(f.More, b)
}

func (c *checker) union(f api.Flat) (int, bool) {
	first, may := c.width(f.Kids[0])
	for _, kid := range f.Kids[1:] {
		width, mayKid := c.width(kid)
		if !mayKid || width != first {
			return 0, false
		}
	}
	return first, may
}

func (c *checker) let(f api.Flat) (int, bool) {
	first, may := c.width(f.Kids[0])
	_, taken := c.marks[f.Name]
	if !may || taken || !isMark(f.Name) {
		return 0, false
	}
	c.marks[f.Name] = first
	defer delete(c.marks, f.Name) // it stands for nothing behind the second Kid
	return c.width(f.Kids[1])
}

// areFlat tells whether expressions are flat ones over so many columns.
func areFlat(l []api.Expr, columns int) bool {
	env := []api.Row{make(api.Row, columns)} // NULLs: what eval does not take of these it takes of no values
	for _, e := range l {
		if deeper(e, api.MaxNest) {
			return false
		}
		if _, bad := eval.Value(e, env); bad == api.ErrArg {
			return false
		}
	}
	return true
}

// deeper tells whether an expression has more than so many ECalls within one another.
func deeper(e api.Expr, most int) bool {
	return e.Kind == api.ECall && (most == 0 || slices.ContainsFunc(e.Kids, func(kid api.Expr) bool { return deeper(kid, most-1) }))
}

// arePlaces tells whether numbers are places of so many columns.
func arePlaces(l []int, columns int) bool {
	return !slices.ContainsFunc(l, func(n int) bool { return !isPlace(n, columns) })
}

func isPlace(n, columns int) bool {
	return 0 <= n && n < columns
}

// areFolds tells whether aggregates may be, of so many columns.
func areFolds(l []api.Fold, columns int) bool {
	return !slices.ContainsFunc(l, func(a api.Fold) bool { return !isFold(a, columns) })
}

func isFold(a api.Fold, columns int) bool {
	if a.Fn == api.AggRows {
		return a.Col == 0
	}
	return api.AggCount <= a.Fn && a.Fn <= api.AggMax && isPlace(a.Col, columns)
}

// isMark tells whether a text is a $ and one to six digits.
func isMark(s string) bool {
	digits, is := strings.CutPrefix(s, "$")
	return is && 1 <= len(digits) && len(digits) <= 6 && strings.Trim(digits, "0123456789") == ""
}

// isName tells whether a text is a name: that of a tree in which nothing else can be wrong.
func isName(s string) bool {
	return parse.Right(api.Ast{Kind: api.ASubscribe, Name: s}) == api.OK
}
