package zset_test

import (
	"math"
	"math/big"
	"math/rand/v2"
	"slices"
	"strings"
	"testing"

	"freshet/api"
	"freshet/row"
)

const (
	least = math.MinInt64
	most  = math.MaxInt64
)

func text(s string) api.Row { return api.Row{{Kind: api.Text, S: s}} }

// counted is a row of one text, n times; changed is one that is there n times more often from a time on.
func counted(s string, n int64) api.Count { return api.Count{Row: text(s), N: n} }

func changed(s string, time, n int64) api.Update {
	return api.Update{Row: text(s), Time: time, Diff: n}
}

// risingRows are each ahead of the next one; many of them are no rows that row.Encode takes.
func risingRows() []api.Row {
	long := slices.Repeat(api.Row{{Kind: api.Null}}, api.MaxWidth)
	return []api.Row{
		{}, {{Kind: math.MinInt}}, {{Kind: -1}},
		{{Kind: api.Null}}, long[:2], long[:3], long, slices.Concat(long, long[:1]), slices.Concat(long, long[:2]), slices.Concat(long[:999], api.Row{{Kind: api.Int}}),
		{{Kind: api.Null, S: "a"}}, {{Kind: api.Null, I: 1}},
		{{Kind: api.Bool}}, {{Kind: api.Bool, I: 1}}, {{Kind: api.Bool, I: 2}},
		{{Kind: api.Int, I: least}}, {{Kind: api.Int, I: 2}}, {{Kind: api.Int, I: 2, S: "a"}}, {{Kind: api.Int, I: 20000}},
		{{Kind: api.Dec, I: 2}}, {{Kind: api.Dec, I: 20000}},
		text(""), text("\x00"), text("a"), {{Kind: api.Text, S: "a"}, {Kind: api.Null}}, {{Kind: api.Text, S: "a"}, {Kind: api.Text, S: "b"}},
		text("a\x00"), text("aa"), text(strings.Repeat("b", api.MaxText+1)), text("\xff"), text("\xff\xfe"),
		{{Kind: api.Text, I: 1}}, {{Kind: api.Bytes, S: "a"}}, {{Kind: 6}}, {{Kind: math.MaxInt}},
	}
}

// edges are numbers whose sums and negatives have and have not room.
func edges() []int64 {
	return []int64{least, least + 1, -1 << 62, -2, -1, 0, 1, 2, 1 << 62, most - 1, most}
}

// lot draws numbers, the same ones at each run.
func lot() *rand.Rand { return rand.New(rand.NewPCG(3, 1)) }

// someCounts are n counts of a few rows, in any order.
func someCounts(by *rand.Rand, rows []api.Row, numbers []int64, n int) []api.Count {
	l := make([]api.Count, n)
	for i := range l {
		l[i] = api.Count{Row: rows[by.IntN(len(rows))], N: numbers[by.IntN(len(numbers))]}
	}
	return l
}

// someUpdates are n updates of a few rows at a few times, in any order.
func someUpdates(by *rand.Rand, rows []api.Row, times, numbers []int64, n int) []api.Update {
	l := make([]api.Update, n)
	for i, c := range someCounts(by, rows, numbers, n) {
		l[i] = api.Update{Row: c.Row, Time: times[by.IntN(len(times))], Diff: c.N}
	}
	return l
}

// summed is the sum of those counts whose row is r, by numbers that have no end.
func summed(l []api.Count, r api.Row) *big.Int {
	sum := new(big.Int)
	for _, c := range l {
		if row.Compare(c.Row, r) == 0 {
			sum.Add(sum, big.NewInt(c.N))
		}
	}
	return sum
}

// sameCount and sameUpdate tell whether two are the same.
func sameCount(a, b api.Count) bool { return a.N == b.N && slices.Equal(a.Row, b.Row) }

func sameUpdate(a, b api.Update) bool {
	return a.Time == b.Time && a.Diff == b.Diff && slices.Equal(a.Row, b.Row)
}

// counts asks that an answer is just that.
func counts(t *testing.T, got []api.Count, bad api.Errno, want ...api.Count) {
	t.Helper()
	if bad != api.OK || !slices.EqualFunc(got, want, sameCount) {
		t.Fatalf("%.200v, error %d; want %.200v", got, bad, want)
	}
}

// updates asks that an answer is just that.
func updates(t *testing.T, got []api.Update, bad api.Errno, want ...api.Update) {
	t.Helper()
	if bad != api.OK || !slices.EqualFunc(got, want, sameUpdate) {
		t.Fatalf("%.200v, error %d; want %.200v", got, bad, want)
	}
}

// refused asks that an answer is ErrDiff, and nothing beside it.
func refused[T any](t *testing.T, got []T, bad api.Errno) {
	t.Helper()
	if bad != api.ErrDiff || len(got) != 0 {
		t.Fatalf("%.200v, error %d; want error %d", got, bad, api.ErrDiff)
	}
}
