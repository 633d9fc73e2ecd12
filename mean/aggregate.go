package mean

import (
	"math/bits"
	"slices"

	"freshet/api"
)

// aggregate is an aggregate's value of a group's rows.
func (m *meaning) aggregate(a api.Agg, rows []api.Count) api.Datum {
	if a.Fn == api.AggRows {
		return integer(howMany(rows))
	}
	rising := m.argument(a, rows)
	switch {
	case a.Fn == api.AggCount:
		return integer(howMany(rising))
	case len(rising) == 0:
		return api.Datum{}
	case a.Fn == api.AggSum:
		return sum(rising)
	case a.Fn == api.AggMin:
		return rising[0].Row[0]
	case a.Fn == api.AggMax:
		return rising[len(rising)-1].Row[0]
	}
	panic(anError)
}

// argument has the values of an aggregate's argument on all rows, each as a row of its own, rising; but not NULL.
func (m *meaning) argument(a api.Agg, rows []api.Count) []api.Count {
	values := m.mapped(rows, []api.Expr{at(a.Args, 0)})
	return slices.DeleteFunc(values, func(c api.Count) bool { return c.Row[0].Kind == api.Null })
}

// howMany rows there are.
func howMany(rows []api.Count) int64 {
	n := int64(0)
	for _, c := range rows {
		n += c.N
	}
	return n
}

// integer is an INT.
func integer(n int64) api.Datum {
	return api.Datum{Kind: api.Int, I: n}
}

// sum adds up numbers of one kind: exactly, so that only the sum of all needs room.
func sum(values []api.Count) api.Datum {
	var t total
	for _, c := range values {
		t = t.plus(c.Row[0].I, c.N)
	}
	if !t.hasRoom() {
		panic(anError)
	}
	return api.Datum{Kind: values[0].Row[0].Kind, I: int64(t.low)}
}

// total is a sum in 128 bits, as two's complement.
type total struct {
	high, low uint64
}

// plus adds a number as often as it is there.
func (t total) plus(n, times int64) total {
	high, low := bits.Mul64(uint64(n), uint64(times))
	if n < 0 { // taken without its sign it is 2^64 greater
		high -= uint64(times)
	}
	low, carry := bits.Add64(t.low, low, 0)
	high, _ = bits.Add64(t.high, high, carry)
	return total{high, low}
}

// hasRoom tells whether the sum is a number of 64 bits.
func (t total) hasRoom() bool {
	return t.high == uint64(int64(t.low)>>63)
}
