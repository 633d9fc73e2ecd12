package zset

import (
	"math/bits"
	"slices"

	"freshet/api"
)

// sum is a sum of numbers in 128 bits, as two's complement: what is added up on the way to a number that has room needs none itself.
type sum struct {
	high, low uint64
}

// sumOf is a number as a sum.
func sumOf(n int64) sum {
	return sum{uint64(n >> 63), uint64(n)}
}

// plus adds up two.
func (a sum) plus(b sum) sum {
	low, carry := bits.Add64(a.low, b.low, 0)
	high, _ := bits.Add64(a.high, b.high, carry)
	return sum{high, low}
}

// negative is the sum turned round.
func (a sum) negative() sum {
	low, borrow := bits.Sub64(0, a.low, 0)
	high, _ := bits.Sub64(0, a.high, borrow)
	return sum{high, low}
}

// number is the sum as a number, and whether it has room.
func (a sum) number() (int64, bool) {
	n := int64(a.low)
	return n, sumOf(n) == a
}

// sums adds up how often each thing is there: in order, none 0 times. ErrDiff, if a sum has no room. Things are the same where order says 0; count is how often one is there; told is one that is there n times, in memory of its own.
func sums[T any](l []T, order func(a, b T) int, count func(T) sum, told func(one T, n int64) T) ([]T, api.Errno) {
	rest := slices.Clone(l)
	slices.SortFunc(rest, order)
	var all []T
	for len(rest) > 0 {
		first, same := rest[0], 0
		var total sum
		for same < len(rest) && order(first, rest[same]) == 0 {
			total = total.plus(count(rest[same]))
			same++
		}
		rest = rest[same:]
		n, room := total.number()
		if !room {
			return nil, api.ErrDiff
		}
		if n != 0 {
			all = append(all, told(first, n))
		}
	}
	return all, api.OK
}
