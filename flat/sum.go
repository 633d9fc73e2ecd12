package flat

import (
	"math/bits"

	"freshet/api"
)

// howMany rows there are.
func howMany(rows []api.Count) (api.Datum, api.Errno) {
	var t total
	for _, c := range rows {
		t = t.plus(1, c.N)
	}
	return t.number(api.Int)
}

// sum adds up the values of a column, in which none is NULL.
func sum(rows []api.Count, col int) (api.Datum, api.Errno) {
	kind := rows[0].Row[col].Kind
	if kind != api.Int && kind != api.Dec {
		return api.Datum{}, api.ErrEval
	}
	var t total
	for _, c := range rows {
		if c.Row[col].Kind != kind {
			return api.Datum{}, api.ErrEval
		}
		t = t.plus(c.Row[col].I, c.N)
	}
	return t.number(kind)
}

// total is a sum in 128 bits, as two's complement: so only the sum of all needs room.
type total struct {
	high, low uint64
}

// plus adds a number as often as it is there, which is more than 0 times.
func (t total) plus(n, times int64) total {
	high, low := bits.Mul64(uint64(n), uint64(times))
	if n < 0 { // taken without its sign it is 2^64 greater
		high -= uint64(times)
	}
	low, carry := bits.Add64(t.low, low, 0)
	high, _ = bits.Add64(t.high, high, carry)
	return total{high, low}
}

// number is the sum as a number of a kind, if that has room.
func (t total) number(kind int) (api.Datum, api.Errno) {
	n := int64(t.low)
	if t.high != uint64(n>>63) {
		return api.Datum{}, api.ErrEval
	}
	return api.Datum{Kind: kind, I: n}, api.OK
}
