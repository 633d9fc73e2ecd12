package datum_test

import (
	"math/big"
	"testing"

	"freshet/api"
	"freshet/datum"
)

// numbers are the edges, as INTs and as DECs.
func numbers() []api.Datum {
	var l []api.Datum
	for _, n := range edges() {
		l = append(l, integer(n), decimal(n))
	}
	return l
}

// exact is what an operator makes of two numbers, worked out with numbers that have no end; nil, if there is nothing.
func exact(op int, a, b api.Datum) *big.Int {
	x, y, scale := big.NewInt(a.I), big.NewInt(b.I), big.NewInt(1)
	if a.Kind == api.Dec || b.Kind == api.Dec {
		scale = big.NewInt(api.Scale)
		if a.Kind == api.Int {
			x.Mul(x, scale)
		}
		if b.Kind == api.Int {
			y.Mul(y, scale)
		}
		if !x.IsInt64() || !y.IsInt64() {
			return nil
		}
	}
	switch op {
	case api.OpAdd:
		x.Add(x, y)
	case api.OpSub:
		x.Sub(x, y)
	case api.OpMul:
		x.Mul(x, y).Quo(x, scale)
	case api.OpDiv:
		if y.Sign() == 0 {
			return nil
		}
		x.Mul(x, scale).Quo(x, y)
	}
	if !x.IsInt64() {
		return nil
	}
	return x
}

// P1.2: arithmetic of all pairs of edges.
func TestArithmeticIsExact(t *testing.T) {
	for _, op := range []int{api.OpAdd, api.OpSub, api.OpMul, api.OpDiv} {
		for _, a := range numbers() {
			for _, b := range numbers() {
				kind := api.Dec
				if a.Kind == api.Int && b.Kind == api.Int {
					kind = api.Int
				}
				if want := exact(op, a, b); want == nil {
					fails(t, api.ErrEval, op, a, b)
				} else {
					gives(t, api.Datum{Kind: kind, I: want.Int64()}, op, a, b)
				}
			}
		}
	}
}

// P1.2: numbers are ordered by what they are, an INT and a DEC, too.
func TestRelationsAreExact(t *testing.T) {
	rational := func(d api.Datum) *big.Rat {
		if d.Kind == api.Int {
			return big.NewRat(d.I, 1)
		}
		return big.NewRat(d.I, api.Scale)
	}
	truth := map[bool]api.Datum{false: no, true: yes}
	for _, a := range numbers() {
		for _, b := range numbers() {
			order := rational(a).Cmp(rational(b))
			gives(t, truth[order == 0], api.OpEq, a, b)
			gives(t, truth[order != 0], api.OpNe, a, b)
			gives(t, truth[order < 0], api.OpLt, a, b)
			gives(t, truth[order <= 0], api.OpLe, a, b)
			gives(t, truth[order > 0], api.OpGt, a, b)
			gives(t, truth[order >= 0], api.OpGe, a, b)
		}
	}
}

// P1.5: sums and products do not hang on the order of two.
func TestSumsAndProductsTurnRound(t *testing.T) {
	for _, op := range []int{api.OpAdd, api.OpMul} {
		for _, a := range numbers() {
			for _, b := range numbers() {
				ab, bad := datum.Apply(op, a, b)
				ba, worse := datum.Apply(op, b, a)
				if ab != ba || bad != worse {
					t.Errorf("Apply(%d, %v, %v): %v, error %d; turned round %v, error %d", op, a, b, ab, bad, ba, worse)
				}
			}
		}
	}
}

// P1.5: x + y - y is x, wherever all have room; as a DEC, if y is one.
func TestSumsGoBack(t *testing.T) {
	for _, x := range numbers() {
		for _, y := range numbers() {
			sum, bad := datum.Apply(api.OpAdd, x, y)
			if bad != api.OK {
				continue
			}
			want := x
			if y.Kind == api.Dec {
				want, _ = datum.Apply(api.OpDec, x)
			}
			gives(t, want, api.OpSub, sum, y)
		}
	}
}

// P1.5: a quotient times its divisor, and the rest, is what was divided: the rest is less than the divisor, and on the dividend's side of 0.
func TestQuotientAndRest(t *testing.T) {
	for _, x := range numbers() {
		for _, y := range numbers() {
			quotient, bad := datum.Apply(api.OpDiv, x, y)
			if bad != api.OK || x.Kind != y.Kind {
				continue
			}
			whole := big.NewInt(x.I)
			if x.Kind == api.Dec {
				whole.Mul(whole, big.NewInt(api.Scale))
			}
			product := new(big.Int).Mul(big.NewInt(quotient.I), big.NewInt(y.I))
			rest := whole.Sub(whole, product)
			if rest.CmpAbs(big.NewInt(y.I)) >= 0 || rest.Sign() != 0 && (rest.Sign() < 0) != (x.I < 0) {
				t.Errorf("%v by %v: %v, the rest %v", x, y, quotient, rest)
			}
		}
	}
}

// P1.5: the same of INTs by the operators alone.
func TestQuotientAndRestOfInts(t *testing.T) {
	for _, n := range edges() {
		for _, m := range edges() {
			x, y := integer(n), integer(m)
			quotient, bad := datum.Apply(api.OpDiv, x, y)
			if bad != api.OK {
				continue
			}
			product, bad := datum.Apply(api.OpMul, quotient, y)
			if bad != api.OK {
				t.Errorf("%v times %v: error %d", quotient, y, bad)
				continue
			}
			rest, bad := datum.Apply(api.OpSub, x, product)
			if bad != api.OK {
				t.Errorf("%v less %v: error %d", x, product, bad)
				continue
			}
			gives(t, x, api.OpAdd, product, rest)
		}
	}
}
