package flat_test

import (
	"math"
	"slices"
	"strings"
	"testing"

	"freshet/api"
	"freshet/datum"
	"freshet/flat"
)

const most = math.MaxInt64

// mixed has a row that is there below 0 times, one that is there more than once, and one that comes and goes.
func mixed() api.Flat {
	return listed(2, numbers(-2, 1, 1), numbers(3, 1, 2), numbers(1, 2, 2), numbers(4, 0, 0), numbers(-4, 0, 0), times(1, integer(2), null))
}

// P9.2: the chapter's examples.
func TestExamples(t *testing.T) {
	tt, m := get("t", 2), get("$0", 2)
	makes(t, columns(tt, 1), "1 (NULL)", "2 (2)")
	makes(t, over(api.FNegate, columns(tt, 1)), "-1 (NULL)", "-2 (2)")
	makes(t, reduced(tt, nil, api.Fold{Fn: api.AggCount, Col: 1}, api.Fold{Fn: api.AggSum, Col: 1}), "1 (2, 4)")
	makes(t, joined(tt, tt, []int{1}, []int{1}), "4 (1, 2, 1, 2)", "1 (2, NULL, 2, NULL)")
	makes(t, let("$0", tt, over(api.FUnion, m, over(api.FNegate, m))))
	fails(t, only(tt, 0))
	mayNotBe(t, m)
	if !refuses(database(), get("t", 3), api.ErrArg) {
		t.Error("rows of another width")
	}
}

// P9.2: a table's rows are those that are there more than 0 times; of each name the first one counts.
func TestTables(t *testing.T) {
	db := []api.Filled{
		table("a", numbers(1, 2), numbers(-3, 1), numbers(2, 2), numbers(0, 5), numbers(4, 1), numbers(-7, 3), numbers(1, 4), numbers(-1, 4)),
		table("b"), table("a", numbers(9, 9)), table("b", numbers(9, 9)),
		// Rows that are not there may be of any kind.
		table("c", times(0, text("\xff")), times(-1), times(2, null, yes), times(-2, null, yes), numbers(1, 1)),
	}
	makesIn(t, db, get("a", 1), "1 (1)", "3 (2)")
	makesIn(t, db, get("b", 1))
	makesIn(t, db, get("b", 1000))
	makesIn(t, db, get("c", 1), "1 (1)")
	makesIn(t, db, over(api.FUnion, get("a", 1), over(api.FNegate, get("c", 1)), get("a", 1)), "1 (1)", "6 (2)")
	makesIn(t, nil, listed(0, times(1)), "1 ()")
}

// P9.2: the rows of a list, tidy: below 0 times, too.
func TestRows(t *testing.T) {
	makes(t, listed(2))
	makes(t, mixed(), "-2 (1, 1)", "3 (1, 2)", "1 (2, NULL)", "1 (2, 2)")
	makes(t, listed(1, numbers(5, 1), times(-1, yes), times(1, null), numbers(-6, 1), times(0, text("a")), times(2, text(""))), "1 (NULL)", "-1 (TRUE)", "-1 (1)", "2 ('')")
	makes(t, listed(0, times(2), times(-5)), "-3 ()")
	makes(t, listed(0, times(2), times(-2)))
}

// P9.2: expressions on each row, behind it.
func TestMaps(t *testing.T) {
	makes(t, mapped(mixed(), call(api.OpAdd, col(0), col(1)), lit(text("a")), col(0)), "-2 (1, 1, 2, 'a', 1)", "3 (1, 2, 3, 'a', 1)", "1 (2, NULL, NULL, 'a', 2)", "1 (2, 2, 4, 'a', 2)")
	makes(t, mapped(mixed()), "-2 (1, 1)", "3 (1, 2)", "1 (2, NULL)", "1 (2, 2)")
	makes(t, mapped(listed(0, times(-3)), lit(yes)), "-3 (TRUE)")
	makes(t, mapped(get("e", 2), wrong()))
	makes(t, mapped(get("n", 1), call(api.OpOr, call(api.OpEq, col(0), lit(integer(1))), call(api.OpGt, col(0), lit(integer(2)))), call(api.OpDiv, lit(decimal(10000)), col(0))), "1 (1, TRUE, 1.0000)", "1 (2, FALSE, 0.5000)", "1 (3, TRUE, 0.3333)")
}

// P9.2: the rows on which the expression is TRUE, and nothing else.
func TestFilters(t *testing.T) {
	makes(t, filtered(mixed(), call(api.OpEq, col(0), col(1))), "-2 (1, 1)", "1 (2, 2)")
	for _, d := range []api.Datum{null, no, integer(1), decimal(1), text("TRUE"), octets("\x01"), integer(0)} {
		makes(t, filtered(mixed(), lit(d)))
	}
	makes(t, filtered(mixed(), lit(yes)), "-2 (1, 1)", "3 (1, 2)", "1 (2, NULL)", "1 (2, 2)")
	makes(t, filtered(get("v", 5), col(0)), "1 (TRUE, 7, 1.5000, 'a', x'00')")
	makes(t, filtered(get("e", 2), wrong()))
}

// P9.2: columns at places: rows that become the same are added up.
func TestColumns(t *testing.T) {
	makes(t, columns(mixed(), 0), "1 (1)", "2 (2)")
	makes(t, columns(mixed(), 1), "1 (NULL)", "-2 (1)", "4 (2)")
	makes(t, columns(mixed(), 1, 0), "1 (NULL, 2)", "-2 (1, 1)", "3 (2, 1)", "1 (2, 2)")
	makes(t, columns(mixed(), 1, 1, 0, 1), "1 (NULL, NULL, 2, NULL)", "-2 (1, 1, 1, 1)", "3 (2, 2, 1, 2)", "1 (2, 2, 2, 2)")
	makes(t, columns(mixed()), "3 ()")
	makes(t, columns(listed(2, numbers(1, 1, 2), numbers(-1, 1, 3)), 0))
}

// P9.2: each row with each that has the same values, NULL among them, N times N times.
func TestJoins(t *testing.T) {
	left := listed(2, numbers(2, 1, 5), numbers(-3, 1, 6), numbers(1, 2, 5), times(4, null, integer(7)), times(1, decimal(20000), integer(0)))
	right := listed(1, numbers(-5, 1), numbers(7, 3), times(-1, null), times(3, text("1")), times(2, yes), numbers(1, 20000))
	makes(t, joined(left, right, []int{0}, []int{0}), "-4 (NULL, 7, NULL)", "-10 (1, 5, 1)", "15 (1, 6, 1)")
	makes(t, joined(right, left, []int{0}, []int{0}), "-4 (NULL, NULL, 7)", "-10 (1, 1, 5)", "15 (1, 1, 6)")
	makes(t, joined(get("n", 1), listed(1, numbers(2, 9), numbers(-1, 8)), nil, nil), "-1 (1, 8)", "2 (1, 9)", "-1 (2, 8)", "2 (2, 9)", "-1 (3, 8)", "2 (3, 9)")
	makes(t, joined(left, get("e", 1), nil, nil))
	makes(t, joined(get("e", 1), left, nil, nil))
	makes(t, joined(listed(0, times(3)), listed(0, times(-2)), nil, nil), "-6 ()")
	// By more than one column, in any order, also one more than once.
	one, two := listed(2, numbers(1, 1, 2), numbers(1, 2, 1), numbers(1, 2, 2)), listed(2, numbers(1, 1, 2), numbers(1, 3, 1))
	makes(t, joined(one, two, []int{0, 1}, []int{1, 0}), "1 (2, 1, 1, 2)")
	makes(t, joined(one, two, []int{0, 1}, []int{0, 1}), "1 (1, 2, 1, 2)")
	makes(t, joined(one, two, []int{0, 0}, []int{0, 1}))
	makes(t, joined(one, two, []int{0, 0, 0}, []int{1, 1, 1}), "1 (1, 2, 3, 1)", "1 (2, 1, 1, 2)", "1 (2, 2, 1, 2)")
	makes(t, joined(one, two, []int{1}, []int{0}), "1 (2, 1, 1, 2)")
	// An INT is not the same as a DEC of the same number, nor a TEXT as BYTES.
	makes(t, joined(listed(1, numbers(1, 0), times(1, text("a"))), listed(1, times(1, decimal(0)), times(1, octets("a")), times(1, no)), []int{0}, []int{0}))
}

// P9.2: all rows of all Kids together.
func TestUnions(t *testing.T) {
	makes(t, over(api.FUnion, mixed()), "-2 (1, 1)", "3 (1, 2)", "1 (2, NULL)", "1 (2, 2)")
	makes(t, over(api.FUnion, mixed(), listed(2, numbers(2, 1, 1), numbers(-4, 1, 2)), get("t", 2), listed(2, numbers(1, 9, 9))), "1 (1, 2)", "2 (2, NULL)", "1 (2, 2)", "1 (9, 9)")
	makes(t, over(api.FUnion, get("n", 1), get("n", 1), over(api.FNegate, get("n", 1))), "1 (1)", "1 (2)", "1 (3)")
}

// P9.2: FNegate, FPos and FDistinct.
func TestSigns(t *testing.T) {
	makes(t, over(api.FNegate, mixed()), "2 (1, 1)", "-3 (1, 2)", "-1 (2, NULL)", "-1 (2, 2)")
	makes(t, over(api.FPos, mixed()), "3 (1, 2)", "1 (2, NULL)", "1 (2, 2)")
	makes(t, over(api.FDistinct, mixed()), "1 (1, 2)", "1 (2, NULL)", "1 (2, 2)")
	makes(t, over(api.FPos, over(api.FNegate, mixed())), "2 (1, 1)")
	makes(t, over(api.FDistinct, over(api.FNegate, mixed())), "1 (1, 1)")
}

// P9.2: groups of the rows that are there more than 0 times, and each aggregate.
func TestReduces(t *testing.T) {
	all := []api.Fold{{Fn: api.AggRows}, {Fn: api.AggCount, Col: 1}, {Fn: api.AggSum, Col: 1}, {Fn: api.AggMin, Col: 1}, {Fn: api.AggMax, Col: 1}}
	makes(t, reduced(mixed(), []int{0}, all...), "1 (1, 3, 3, 6, 2, 2)", "1 (2, 2, 1, 2, 2, 2)")
	makes(t, reduced(mixed(), nil, all...), "1 (5, 4, 8, 2, 2)")
	makes(t, reduced(mixed(), []int{1, 0, 1}), "1 (NULL, 2, NULL)", "1 (2, 1, 2)", "1 (2, 2, 2)")
	makes(t, reduced(mixed(), []int{1}, api.Fold{Fn: api.AggMax}, api.Fold{Fn: api.AggSum}), "1 (NULL, 2, 2)", "1 (2, 2, 5)")
	makes(t, reduced(mixed(), nil), "1 ()")
	// Of no rows there is no group, of none there either that are there below 0 times.
	makes(t, reduced(get("e", 2), nil, all...))
	makes(t, reduced(over(api.FNegate, get("t", 2)), []int{0}, all...))
	makes(t, reduced(listed(0, times(4)), nil, api.Fold{Fn: api.AggRows}), "1 (4)")
	makes(t, reduced(listed(0, times(-4)), nil, api.Fold{Fn: api.AggRows}))
	nulls := listed(2, times(2, yes, null), times(3, no, null))
	makes(t, reduced(nulls, nil, all...), "1 (5, 0, NULL, NULL, NULL)")
	makes(t, reduced(nulls, []int{0}, all...), "1 (FALSE, 3, 0, NULL, NULL, NULL)", "1 (TRUE, 2, 0, NULL, NULL, NULL)")
	// NULL is the same as NULL, also among what groups are of; a DEC is no INT.
	makes(t, reduced(listed(2, numbers(1, 1, 1), times(2, null, integer(2)), times(3, null, integer(3)), times(4, decimal(1), integer(4))), []int{0}, api.Fold{Fn: api.AggRows}), "1 (NULL, 5)", "1 (1, 1)", "1 (0.0001, 4)")
	// The least and the greatest of values of any kinds, as datum.Compare has them.
	some := listed(1, times(1, null), times(1, yes), numbers(2, -5), times(1, decimal(-70000)), times(1, text("b")), times(1, octets("a")), times(-1, octets("z")))
	makes(t, reduced(some, nil, api.Fold{Fn: api.AggMin}, api.Fold{Fn: api.AggMax}, api.Fold{Fn: api.AggCount}, api.Fold{Fn: api.AggRows}), "1 (TRUE, x'61', 6, 7)")
	makes(t, reduced(get("v", 5), nil, api.Fold{Fn: api.AggMin, Col: 3}, api.Fold{Fn: api.AggMax, Col: 4}, api.Fold{Fn: api.AggMin, Col: 0}, api.Fold{Fn: api.AggSum, Col: 2}, api.Fold{Fn: api.AggSum, Col: 1}), "1 ('a', x'00', FALSE, 0.0000, -14)")
}

// P9.2: sums are exact, whatever lies on the way to them, and an error, if they have no room, or are of no numbers, or not of one Kind.
func TestSums(t *testing.T) {
	sum := func(l ...api.Count) api.Flat {
		for i, c := range l {
			l[i].Row = append(c.Row, integer(int64(i)))
		}
		return reduced(listed(2, l...), nil, api.Fold{Fn: api.AggSum})
	}
	makes(t, sum(numbers(2, -most), numbers(1, most), numbers(1, most)), "1 (0)")
	makes(t, sum(numbers(1, most)), "1 (9223372036854775807)")
	makes(t, sum(numbers(1, math.MinInt64)), "1 (-9223372036854775808)")
	makes(t, sum(numbers(1, most), numbers(1, 1), numbers(2, -1)), "1 (9223372036854775806)")
	makes(t, sum(numbers(1, math.MinInt64), numbers(1<<61, 2), numbers(1<<61, 2), numbers(1, -1)), "1 (-1)")
	makes(t, sum(numbers(1<<60, -8)), "1 (-9223372036854775808)")
	makes(t, sum(numbers(1<<60, math.MinInt64), numbers(1<<60, most), numbers(1<<60, 1)), "1 (0)")
	makes(t, sum(times(2, decimal(15000)), times(1, null), times(1, decimal(-1))), "1 (2.9999)")
	makes(t, sum(times(1, decimal(most)), times(1, decimal(-most))), "1 (0.0000)")
	fails(t, sum(numbers(1, most), numbers(1, 1)), sum(numbers(2, most)), sum(numbers(1, math.MinInt64), numbers(1, -1)), sum(numbers(1<<60, 8)), sum(numbers(1<<61, most)), sum(numbers(1<<61, math.MinInt64)), sum(times(2, decimal(most))), sum(numbers(1<<60, -8), numbers(1, -1)), sum(numbers(1<<61, 8), numbers(1<<61, 8)), sum(numbers(4, math.MinInt64)), sum(numbers(1<<61, 1<<62), numbers(1<<61, 1<<62)))
	for _, d := range []api.Datum{yes, text("1"), octets("")} {
		fails(t, sum(times(1, d)), sum(times(1, d), times(1, d)), sum(numbers(1, 1), times(1, d)), sum(times(1, d), numbers(1, 1)), sum(times(1, null), times(1, d)))
		makes(t, sum(numbers(1, 1), times(-1, d)), "1 (1)")
		makes(t, sum(numbers(1, 1), times(0, d)), "1 (1)")
		fails(t, reduced(listed(2, numbers(1, 1, 1), times(1, integer(2), d)), []int{0}, api.Fold{Fn: api.AggSum, Col: 1}))
	}
	fails(t, sum(numbers(1, 1), times(1, decimal(10000))), sum(numbers(1, 0), times(1, decimal(0))))
	makes(t, sum(numbers(1, 1), times(-1, decimal(10000)), times(1, null)), "1 (1)")
	// Each group by itself may have another Kind.
	makes(t, reduced(listed(2, times(2, yes, integer(1)), times(3, no, decimal(1)), times(1, null, null)), []int{0}, api.Fold{Fn: api.AggSum, Col: 1}), "1 (NULL, NULL)", "1 (FALSE, 0.0003)", "1 (TRUE, 2)")
}

// P9.2: the first rows of each group, each as often as it is there.
func TestTops(t *testing.T) {
	some := listed(2, numbers(2, 1, 1), numbers(3, 1, 2), times(1, integer(1), null), numbers(-9, 1, 0), numbers(1, 2, 7), numbers(1, 2, 5), numbers(-1, 3, 3))
	makes(t, top(some, 0, []int{0}, []int{1}, false))
	makes(t, top(some, 1, []int{0}, []int{1}, false), "1 (1, NULL)", "1 (2, 5)")
	makes(t, top(some, 2, []int{0}, []int{1}, false), "1 (1, NULL)", "1 (1, 1)", "1 (2, 5)", "1 (2, 7)")
	makes(t, top(some, 4, []int{0}, []int{1}, false), "1 (1, NULL)", "2 (1, 1)", "1 (1, 2)", "1 (2, 5)", "1 (2, 7)")
	makes(t, top(some, 1, []int{0}, []int{1}, true), "1 (1, 2)", "1 (2, 7)")
	makes(t, top(some, 5, []int{0}, []int{1}, true), "2 (1, 1)", "3 (1, 2)", "1 (2, 5)", "1 (2, 7)")
	makes(t, top(some, math.MaxInt, []int{0}, []int{1}, true), "1 (1, NULL)", "2 (1, 1)", "3 (1, 2)", "1 (2, 5)", "1 (2, 7)")
	makes(t, top(some, 3, nil, []int{1}, true), "1 (1, 2)", "1 (2, 5)", "1 (2, 7)")
	makes(t, top(some, 3, nil, nil), "1 (1, NULL)", "2 (1, 1)")
	makes(t, top(some, 3, nil, []int{0}, true), "1 (1, NULL)", "1 (2, 5)", "1 (2, 7)")
	makes(t, top(some, 2, []int{1}, nil), "1 (1, NULL)", "2 (1, 1)", "2 (1, 2)", "1 (2, 5)", "1 (2, 7)")
	makes(t, top(some, 1, []int{1, 0}, nil), "1 (1, NULL)", "1 (1, 1)", "1 (1, 2)", "1 (2, 5)", "1 (2, 7)")
	// By one column behind another one; what is the same there stands by row.Compare, and that is never turned round.
	three := listed(3, numbers(1, 1, 2, 3), numbers(1, 1, 2, 4), numbers(1, 1, 3, 1), numbers(1, 0, 3, 9))
	makes(t, top(three, 2, nil, []int{1, 0}, true, false), "1 (0, 3, 9)", "1 (1, 3, 1)")
	makes(t, top(three, 1, nil, []int{1, 0}, true, true), "1 (1, 3, 1)")
	makes(t, top(three, 1, nil, []int{1}, false), "1 (1, 2, 3)")
	makes(t, top(three, 1, nil, []int{1}, true), "1 (0, 3, 9)")
	makes(t, top(three, 1, []int{1}, []int{1}, true), "1 (0, 3, 9)", "1 (1, 2, 3)")
	makes(t, top(three, 1, nil, []int{0, 2}, true, true), "1 (1, 2, 4)")
	makes(t, top(three, 2, nil, []int{1, 1, 2}, false, true, true), "1 (1, 2, 3)", "1 (1, 2, 4)")
	makes(t, top(listed(0, times(5)), 3, nil, nil), "3 ()")
	makes(t, top(listed(0, times(-5)), 3, nil, nil))
	makes(t, top(get("e", 2), 3, nil, nil))
	makes(t, top(listed(1, times(1<<61, yes), times(1<<60, null)), 1<<61, nil, nil), "1152921504606846976 (NULL)", "1152921504606846976 (TRUE)")
}

// P9.2: the rows that are there more than 0 times, if no group has more than one, nor one more than once.
func TestOnes(t *testing.T) {
	some := listed(2, numbers(1, 1, 1), numbers(-3, 1, 2), numbers(1, 2, 1), times(1, null, integer(1)), numbers(-1, 5, 5), numbers(2, 6, 6), numbers(-2, 6, 6))
	makes(t, only(some, 0), "1 (NULL, 1)", "1 (1, 1)", "1 (2, 1)")
	makes(t, only(some, 0, 1, 0), "1 (NULL, 1)", "1 (1, 1)", "1 (2, 1)")
	fails(t, only(some, 1), only(some), only(get("t", 2), 0), only(get("t", 2), 0, 1), only(get("t", 2), 1), only(listed(0, times(2))), only(listed(1, times(2, null)), 0), only(listed(2, times(1, null, yes), times(1, null, no)), 0))
	makes(t, only(listed(0, times(1))), "1 ()")
	makes(t, only(listed(0, times(-2))))
	makes(t, only(get("e", 2)))
	makes(t, only(listed(1, times(1, integer(1)), times(1, decimal(10000))), 0), "1 (1)", "1 (1.0000)")
}

// P9.2: a mark is what the first Kid makes, however often it is asked for, whatever the database has.
func TestLets(t *testing.T) {
	m, n := get("$0", 1), get("n", 1)
	makes(t, let("$0", n, over(api.FUnion, m, m, over(api.FNegate, listed(1, numbers(1, 1))))), "1 (1)", "2 (2)", "2 (3)")
	makes(t, let("$0", n, listed(0, times(1))), "1 ()")
	makes(t, let("$0", over(api.FNegate, n), m), "-1 (1)", "-1 (2)", "-1 (3)")
	makes(t, let("$0", let("$0", n, columns(m, 0, 0)), columns(get("$0", 2), 1)), "1 (1)", "1 (2)", "1 (3)")
	makes(t, let("$0", n, let("$1", filtered(m, call(api.OpGt, col(0), lit(integer(1)))), let("$2", joined(m, get("$1", 1), nil, nil), columns(get("$2", 2), 0)))), "2 (1)", "2 (2)", "2 (3)")
	makes(t, over(api.FUnion, let("$0", n, m), let("$0", listed(1, numbers(-2, 2)), m)), "1 (1)", "-1 (2)", "1 (3)")
	makes(t, let("$0", n, over(api.FUnion, let("$1", listed(1, numbers(1, 9)), get("$1", 1)), m, let("$1", m, get("$1", 1)))), "2 (1)", "2 (2)", "2 (3)", "1 (9)")
	db := append(database(), table("$0", numbers(1, 77), times(1), times(1, text("\xff"))), table("", numbers(1)))
	makesIn(t, db, let("$0", n, m), "1 (1)", "1 (2)", "1 (3)")
	makesIn(t, []api.Filled{table("$0", numbers(1, 77))}, let("$0", listed(1, numbers(1, 5)), m), "1 (5)")
}

// P9.2: an error in any part is one of the whole, whether it is asked for or not; but expressions are asked on rows alone that are there.
func TestErrors(t *testing.T) {
	tt, one := get("t", 2), listed(0, times(1))
	for _, f := range []api.Flat{
		mapped(tt, wrong()), filtered(tt, wrong()), mapped(tt, lit(yes), wrong()), only(tt), reduced(get("v", 5), nil, api.Fold{Fn: api.AggSum, Col: 3}),
		mapped(listed(2, numbers(-1, 1, 1)), wrong()), filtered(listed(2, numbers(-1, 1, 1)), wrong()), filtered(over(api.FNegate, tt), wrong()),
		filtered(tt, call(api.OpEq, col(0), lit(text("a")))), mapped(tt, call(api.OpNot, col(0))), filtered(tt, call(api.OpAnd, lit(yes), col(0))), mapped(tt, call(api.OpCase, col(0), lit(yes))), mapped(tt, call(api.OpAdd, col(0), lit(integer(most)))), mapped(tt, call(api.OpLength, lit(integer(1)))),
		mapped(tt, call(api.OpDiv, lit(integer(1)), call(api.OpSub, col(0), lit(integer(2))))),
	} {
		fails(t, f, columns(f), top(f, 0, nil, nil), over(api.FNegate, f), over(api.FPos, f), over(api.FDistinct, f), reduced(f, nil), only(columns(over(api.FPos, f))), filtered(f, lit(no)), mapped(f), over(api.FUnion, over(api.FNegate, f), f),
			over(api.FUnion, columns(f), one), over(api.FUnion, one, one, columns(f)), joined(f, get("e", 1), nil, nil), joined(get("e", 1), f, nil, nil), let("$0", f, one), let("$0", one, f), let("$0", one, let("$1", f, get("$0", 0))), joined(one, let("$0", f, one), nil, nil))
	}
	makes(t, filtered(get("e", 2), wrong()))
	makes(t, filtered(over(api.FUnion, tt, over(api.FNegate, tt)), wrong()))
	makes(t, filtered(columns(listed(2, numbers(1, 0, 1), numbers(-1, 0, 2)), 0), wrong()))
	makes(t, mapped(listed(1, numbers(2, 0), numbers(1, 4), numbers(-2, 0)), call(api.OpDiv, lit(integer(8)), col(0))), "1 (4, 2)")
	makes(t, mapped(over(api.FPos, listed(1, numbers(-1, 0), numbers(1, 4))), call(api.OpDiv, lit(integer(8)), col(0))), "1 (4, 2)")
	makes(t, let("$0", filtered(get("e", 1), wrong()), one), "1 ()")
	not2 := call(api.OpDiv, lit(integer(6)), call(api.OpSub, col(0), lit(integer(2))))
	makes(t, mapped(top(get("n", 1), 1, nil, nil), not2), "1 (1, -6)")
	makes(t, mapped(top(get("n", 1), 1, nil, []int{0}, true), not2), "1 (3, 6)")
	fails(t, mapped(top(get("n", 1), 2, nil, nil), not2))
	makes(t, mapped(reduced(get("n", 1), nil, api.Fold{Fn: api.AggRows}), not2), "1 (3, 6)")
	makes(t, filtered(joined(get("n", 1), listed(1, numbers(1, 1), numbers(1, 3)), []int{0}, []int{0}), not2))
	makes(t, filtered(get("n", 1), call(api.OpOr, call(api.OpLt, col(0), lit(integer(9))), call(api.OpEq, wrong(), lit(integer(1))))), "1 (1)", "1 (2)", "1 (3)")
}

// P9.2: which error is told first.
func TestOrderOfErrors(t *testing.T) {
	bad := table("bad", times(1, text("\xff")))
	db := append(database(), bad, table("short", times(1)), table("zero", times(0, text("\xff")), times(-1)))
	mayNot, lacks, args, evals := listed(-1), get("nosuch", 1), get("bad", 1), columns(mapped(get("n", 1), wrong()), 0)
	for i, x := range []struct {
		f    api.Flat
		want api.Errno
	}{
		{mayNot, api.ErrFlat}, {over(api.FUnion, lacks, args, evals, mayNot), api.ErrFlat}, {over(api.FUnion, mayNot, lacks), api.ErrFlat}, {get("$1", 1), api.ErrFlat}, {columns(lacks, 1), api.ErrFlat},
		{lacks, api.ErrNone}, {over(api.FUnion, args, evals, lacks), api.ErrNone}, {over(api.FUnion, lacks, args), api.ErrNone}, {let("$0", lacks, evals), api.ErrNone}, {joined(get("e", 1), let("$0", get("a", 0), listed(0)), nil, nil), api.ErrNone}, {get("Bad", 1), api.ErrFlat}, {over(api.FUnion, get("bad", 1), get("z", 1)), api.ErrNone}, {over(api.FUnion, get("bad", 1), get("a", 1)), api.ErrNone},
		{args, api.ErrArg}, {over(api.FUnion, evals, args), api.ErrArg}, {over(api.FUnion, args, evals), api.ErrArg}, {let("$0", args, evals), api.ErrArg}, {let("$0", evals, let("$1", get("short", 1), listed(0))), api.ErrArg}, {get("t", 1), api.ErrArg}, {get("t", 3), api.ErrArg}, {get("t", 0), api.ErrArg}, {joined(get("e", 1), get("short", 1), nil, nil), api.ErrArg},
		{over(api.FUnion, get("t", 2), columns(get("t", 1), 0, 0)), api.ErrArg}, {over(api.FUnion, columns(get("t", 1), 0, 0), get("t", 2)), api.ErrArg}, {joined(get("t", 2), joined(get("t", 3), get("t", 2), nil, nil), nil, nil), api.ErrArg},
		{evals, api.ErrEval}, {let("$0", evals, get("n", 1)), api.ErrEval}, {over(api.FUnion, get("zero", 1), evals), api.ErrEval},
	} {
		if !refuses(db, x.f, x.want) {
			got, bad := flat.Eval(db, x.f)
			t.Errorf("%d: %s: %v, error %d; want error %d", i, describe(x.f), show(got), bad, x.want)
		}
	}
	for i := range 4 { // FGets of one table whose widths are unlike: each row that is there is one too many
		for k := range 4 {
			for n := range 4 {
				db := []api.Filled{table("x", times(1, make(api.Row, n)...)), table("y", times(-1, make(api.Row, n)...))}
				x := over(api.FUnion, columns(get("x", i)), columns(get("x", k)), columns(get("x", i)))
				if i == k && i == n {
					makesIn(t, db, x, "3 ()")
				} else if !refuses(db, x, api.ErrArg) {
					t.Errorf("widths %d and %d, rows of %d values", i, k, n)
				}
				makesIn(t, db, over(api.FUnion, columns(get("y", i)), columns(get("y", k))))
			}
		}
	}
	makesIn(t, db, get("zero", 5))
	makesIn(t, db, over(api.FUnion, get("e", 5), columns(get("e", 4), 0, 1, 2, 3, 3)))
	makesIn(t, db, listed(1, numbers(1, 1)), "1 (1)") // tables that it does not name are not looked at
	for _, d := range wrongValues() {
		db := []api.Filled{table("w", times(1, yes, yes), times(2, yes, d))}
		if !refuses(db, get("w", 2), api.ErrArg) || !refuses(db, filtered(get("w", 2), wrong()), api.ErrArg) {
			t.Errorf("%v: no error", d)
		}
		db[0].Rows[1].N = 0
		makesIn(t, db, get("w", 2), "1 (TRUE, TRUE)")
	}
	long := text(strings.Repeat("a", api.MaxText))
	makesIn(t, []api.Filled{table("w", times(1, long))}, get("w", 1), "1 "+"('"+long.S+"')")
}

// R1: a count without room is an error like others, wherever it comes from.
func TestNoRoom(t *testing.T) {
	least, twice := listed(0, times(math.MinInt64)), listed(0, times(most), times(most))
	fails(t, twice, over(api.FNegate, least), over(api.FUnion, least, least), columns(listed(1, times(most, yes), times(most, no))), let("$0", twice, get("n", 1)), let("$0", get("n", 1), joined(get("$0", 1), twice, nil, nil)), reduced(listed(1, times(most, yes), times(most, no)), nil, api.Fold{Fn: api.AggRows}), reduced(listed(1, times(most, yes), times(most, no)), nil, api.Fold{Fn: api.AggCount}))
	makes(t, over(api.FUnion, least, listed(0, times(most))), "-1 ()")
	db := []api.Filled{table("full", times(most, yes), times(1, yes)), table("t", times(1))}
	if !refuses(db, get("full", 1), api.ErrEval) || !refuses(db, over(api.FUnion, get("full", 1), get("nosuch", 1)), api.ErrNone) {
		t.Error("a table's row without room")
	}
}

// R2, R6: behind an error nothing of it is left, and the same is told again, whatever was asked between.
func TestAgain(t *testing.T) {
	for range 3 {
		fails(t, let("$0", get("n", 1), mapped(get("$0", 1), wrong())), only(get("t", 2)))
		mayNotBe(t, get("$0", 1), columns(get("n", 1), 1))
		mayBe(t, get("n", 1), 1, "n")
		makes(t, get("n", 1), "1 (1)", "1 (2)", "1 (3)")
		makesIn(t, []api.Filled{table("n")}, get("n", 1))
	}
}

// P9.2: of values of all kinds, and long rows, joins and groups go by all of a value.
func TestAllValues(t *testing.T) {
	values := []api.Datum{null, no, yes, integer(math.MinInt64), integer(0), integer(1), decimal(0), decimal(1), text(""), text("a"), text("a\x00"), text("a\x00b"), octets(""), octets("a"), octets("a\x00"), text(strings.Repeat("a", api.MaxText)), octets(strings.Repeat("a", api.MaxText))}
	slices.SortFunc(values, datum.Compare)
	var rows []api.Count
	var want, counted, pairs []string
	for i, a := range values {
		for _, b := range values {
			rows = append(rows, times(int64(i+1), a, b))
			want = append(want, show(rows[len(rows)-1:])...)
			counted = append(counted, show([]api.Count{times(1, a, b, integer(int64(i+1)))})...)
			pairs = append(pairs, show([]api.Count{times(int64(i+1)*int64(i+1), a, b, a, b)})...)
		}
	}
	slices.Reverse(rows)
	f := listed(2, rows...)
	makes(t, f, want...)
	makes(t, reduced(f, []int{0, 1}, api.Fold{Fn: api.AggRows}), counted...)
	makes(t, joined(f, f, []int{0, 1}, []int{0, 1}), pairs...)
	makes(t, joined(f, f, []int{1, 0, 1}, []int{1, 0, 1}), pairs...)
	makes(t, top(f, 1<<60, []int{1}, []int{0}, true), want...)
}

// P9.2: what two parts make of the same rows does not mix, however wide these are.
func TestPartsDoNotMix(t *testing.T) {
	for width := range 40 {
		r := make(api.Row, width)
		wide := joined(get("n", 1), listed(width, times(1, r...)), nil, nil)
		m := get("$0", 1+width)
		ends := func(d api.Datum) api.Flat { return columns(mapped(m, lit(d)), 0, width+1) }
		makes(t, let("$0", wide, over(api.FUnion, ends(yes), ends(no), ends(yes))), "1 (1, FALSE)", "2 (1, TRUE)", "1 (2, FALSE)", "2 (2, TRUE)", "1 (3, FALSE)", "2 (3, TRUE)")
		both := mapped(m, lit(yes), lit(no))
		makes(t, columns(let("$0", wide, joined(both, mapped(m, lit(null)), []int{0}, []int{0})), 0, width+1, width+2, width+3, 2*width+4), "1 (1, TRUE, FALSE, 1, NULL)", "1 (2, TRUE, FALSE, 2, NULL)", "1 (3, TRUE, FALSE, 3, NULL)")
	}
}

// R1: many rows are no trouble.
func TestManyRows(t *testing.T) {
	const n = 100000
	var rows []api.Count
	for i := range int64(n) {
		rows = append(rows, numbers(1+i%3, i*7919%n, i%1000))
	}
	db := []api.Filled{table("m", rows...)}
	m := get("m", 2)
	makesIn(t, db, reduced(joined(m, m, []int{0}, []int{0}), nil, api.Fold{Fn: api.AggRows}, api.Fold{Fn: api.AggMax, Col: 2}), "1 (466663, 99999)")
	makesIn(t, db, reduced(reduced(m, []int{1}, api.Fold{Fn: api.AggRows}), nil, api.Fold{Fn: api.AggRows}, api.Fold{Fn: api.AggSum, Col: 1}), "1 (1000, 199999)")
	makesIn(t, db, top(only(over(api.FDistinct, m), 0), 1, nil, []int{1, 0}, true, true), "1 (99081, 999)")
	makesIn(t, db, over(api.FPos, over(api.FUnion, m, over(api.FNegate, m))))
}
