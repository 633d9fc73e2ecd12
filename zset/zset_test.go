package zset_test

import (
	"math/big"
	"slices"
	"testing"

	"freshet/api"
	"freshet/zset"
)

// P3.1: Tidy has each row once, by rising rows, none 0 times.
func TestTidy(t *testing.T) {
	for _, x := range []struct{ l, want []api.Count }{
		{nil, nil}, {[]api.Count{}, nil},
		{[]api.Count{counted("a", 1)}, []api.Count{counted("a", 1)}},
		{[]api.Count{counted("a", 0)}, nil},
		{[]api.Count{counted("a", -3)}, []api.Count{counted("a", -3)}},
		{[]api.Count{counted("b", 1), counted("a", 2), counted("b", -1)}, []api.Count{counted("a", 2)}},
		{[]api.Count{counted("a", 1), counted("a", 1), counted("a", 1)}, []api.Count{counted("a", 3)}},
		{[]api.Count{counted("c", 3), counted("", 4), counted("b", 2), counted("a", 1), counted("c", -4)}, []api.Count{counted("", 4), counted("a", 1), counted("b", 2), counted("c", -1)}},
		{[]api.Count{counted("b", 5), counted("a", 0), counted("b", 0)}, []api.Count{counted("b", 5)}},
	} {
		l, bad := zset.Tidy(x.l...)
		counts(t, l, bad, x.want...)
	}
}

// P3.1: a sum has room from -2^63 to 2^63 - 1, whatever there is on the way to it.
func TestTidyHasRoom(t *testing.T) {
	for _, x := range []struct {
		numbers []int64
		want    int64
	}{
		{[]int64{most}, most}, {[]int64{least}, least}, {[]int64{most, least}, -1},
		{[]int64{most, 1, -1}, most}, {[]int64{1, most, -1}, most}, {[]int64{most, most, least, least, 2}, 0},
		{[]int64{least, -1, 1}, least}, {[]int64{least, least, most, 1}, least}, {[]int64{least, least, most, most, 1}, -1},
		{[]int64{1 << 62, 1 << 62, -1}, most}, {[]int64{-1 << 62, -1 << 62}, least},
		{slices.Concat(slices.Repeat([]int64{most}, 500), slices.Repeat([]int64{-most}, 499)), most},
		{slices.Concat(slices.Repeat([]int64{least}, 500), slices.Repeat([]int64{most}, 499), []int64{499}), least},
	} {
		var l []api.Count
		for _, n := range x.numbers {
			l = append(l, counted("a", n), counted("b", 1))
		}
		want := []api.Count{counted("b", int64(len(x.numbers)))}
		if x.want != 0 {
			want = slices.Insert(want, 0, counted("a", x.want))
		}
		got, bad := zset.Tidy(l...)
		counts(t, got, bad, want...)
	}
}

// P3.1: ErrDiff of a sum without room, of Tidy and of those that have Tidy's error, whichever row's it is, and whether it is above 0 or below.
func TestNoRoom(t *testing.T) {
	for _, numbers := range [][]int64{{most, 1}, {1, most}, {least, -1}, {most, most}, {least, least}, {1 << 62, 1 << 62}, {most, most, -1}, {least, most, least}, {most, most, 2}, {least, least, least, least}} {
		for _, name := range []string{"a", "m", "z"} {
			l := []api.Count{counted("b", 1), counted("y", 1)}
			for _, n := range numbers {
				l = append(l, counted(name, n), counted("b", -1))
			}
			got, bad := zset.Tidy(l...)
			refused(t, got, bad)
			got, bad = zset.Positive(l)
			refused(t, got, bad)
			got, bad = zset.Distinct(l)
			refused(t, got, bad)
		}
	}
}

// P3.1: Negate turns sums round.
func TestNegate(t *testing.T) {
	for _, x := range []struct{ l, want []api.Count }{
		{nil, nil}, {[]api.Count{counted("a", 0)}, nil},
		{[]api.Count{counted("b", 1), counted("a", -2), counted("b", 4)}, []api.Count{counted("a", 2), counted("b", -5)}},
		{[]api.Count{counted("a", 1), counted("a", -1)}, nil},
		{[]api.Count{counted("a", most)}, []api.Count{counted("a", least+1)}},
		{[]api.Count{counted("a", least), counted("a", 1)}, []api.Count{counted("a", most)}},
		{[]api.Count{counted("a", least), counted("a", most)}, []api.Count{counted("a", 1)}},
		// Here the sum has no room, but its negative has.
		{[]api.Count{counted("a", most), counted("b", 1), counted("a", 1)}, []api.Count{counted("a", least), counted("b", -1)}},
	} {
		l, bad := zset.Negate(x.l)
		counts(t, l, bad, x.want...)
	}
}

// P3.1: ErrDiff of a negative without room.
func TestNegateNoRoom(t *testing.T) {
	for _, numbers := range [][]int64{{least}, {least + 1, -1}, {-1 << 62, -1 << 62}, {most, 2}, {most, most}, {least, least}, {least, -1}, {most, most, least, least, least, 2}} {
		l := []api.Count{counted("c", 1)}
		for _, n := range numbers {
			l = append(l, counted("b", n), counted("a", 1))
		}
		got, bad := zset.Negate(l)
		refused(t, got, bad)
	}
}

// P3.1: Positive and Distinct go by sums.
func TestPositiveAndDistinct(t *testing.T) {
	for _, x := range []struct{ l, want []api.Count }{
		{nil, nil}, {[]api.Count{counted("a", -1), counted("b", 2)}, []api.Count{counted("b", 2)}},
		{[]api.Count{counted("b", -1), counted("a", -1)}, nil},
		{[]api.Count{counted("a", 3), counted("a", -3), counted("b", 0)}, nil},
		{[]api.Count{counted("a", 3), counted("a", -4)}, nil},
		{[]api.Count{counted("c", 1), counted("b", -4), counted("a", -3), counted("a", 5), counted("b", 5)}, []api.Count{counted("a", 2), counted("b", 1), counted("c", 1)}},
		{[]api.Count{counted("c", most), counted("b", least), counted("a", 7)}, []api.Count{counted("a", 7), counted("c", most)}},
		{[]api.Count{counted("d", -1), counted("c", -1), counted("b", 2), counted("a", -1)}, []api.Count{counted("b", 2)}},
	} {
		l, bad := zset.Positive(x.l)
		counts(t, l, bad, x.want...)
		once := slices.Clone(x.want)
		for i := range once {
			once[i].N = 1
		}
		l, bad = zset.Distinct(x.l)
		counts(t, l, bad, once...)
	}
}

// P3.1: rows have any values: those that row.Encode refuses, too, are told apart and ordered.
func TestAnyRows(t *testing.T) {
	rows := risingRows()
	by := lot()
	for range 20 {
		var l, want, turned []api.Count
		for i, r := range rows {
			n := int64(i - 10)
			l = append(l, api.Count{Row: r, N: n - 5}, api.Count{Row: slices.Clone(r), N: 5})
			if n != 0 {
				want, turned = append(want, api.Count{Row: r, N: n}), append(turned, api.Count{Row: r, N: -n})
			}
		}
		by.Shuffle(len(l), func(i, j int) { l[i], l[j] = l[j], l[i] })
		got, bad := zset.Tidy(l...)
		counts(t, got, bad, want...)
		got, bad = zset.Negate(l)
		counts(t, got, bad, turned...)
		got, bad = zset.Positive(l)
		counts(t, got, bad, want[10:]...)
	}
}

// P3.1: of any counts what sums without an end say; the error hangs on nothing else.
func TestSumsAreExact(t *testing.T) {
	rows := []api.Row{{}, text(""), text("a"), {{Kind: api.Text, S: "a"}, {Kind: api.Null}}, text("b"), {{Kind: 9}}}
	by := lot()
	for i := range 3000 {
		l := someCounts(by, rows[:1+by.IntN(len(rows))], edges(), i%12)
		var want, turned []api.Count
		room, roomTurned := true, true
		for _, r := range rows {
			n := summed(l, r)
			minus := new(big.Int).Neg(n)
			room, roomTurned = room && n.IsInt64(), roomTurned && minus.IsInt64()
			if n.Sign() != 0 {
				want, turned = append(want, api.Count{Row: r, N: n.Int64()}), append(turned, api.Count{Row: r, N: minus.Int64()})
			}
		}
		got, bad := zset.Tidy(l...)
		if room {
			counts(t, got, bad, want...)
		} else {
			refused(t, got, bad)
		}
		got, bad = zset.Negate(l)
		if roomTurned {
			counts(t, got, bad, turned...)
		} else {
			refused(t, got, bad)
		}
	}
}
