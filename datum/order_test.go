package datum_test

import (
	"math"
	"testing"

	"freshet/api"
	"freshet/datum"
)

// P1.1: which values may be.
func TestRight(t *testing.T) {
	for _, d := range rightValues() {
		if !datum.Right(d) {
			t.Errorf("%v may be", d)
		}
	}
	for _, d := range wrongValues() {
		if datum.Right(d) {
			t.Errorf("%v may not be", d)
		}
	}
}

// P1.1: by Kind, then by I, then by S, also of values that may not be.
func TestCompare(t *testing.T) {
	rising := []api.Datum{
		{Kind: math.MinInt}, {Kind: -1, I: 5, S: "z"},
		null, {S: "a"}, {I: 1},
		{Kind: api.Bool, I: -1, S: "z"}, no, {Kind: api.Bool, S: "a"}, yes, {Kind: api.Bool, I: 2},
		integer(math.MinInt64), integer(-1), integer(0), {Kind: api.Int, S: "a"}, integer(1), integer(20000), integer(math.MaxInt64),
		decimal(math.MinInt64), decimal(-1), decimal(0), decimal(1), decimal(math.MaxInt64),
		{Kind: api.Text, I: -1, S: "z"}, text(""), text("\x00"), text("B"), text("a"), text("a\x00"), text("aa"), text("b"), text("ß"), text("日"), text("\U0001f600"), text("\xff"), {Kind: api.Text, I: 1},
		octets(""), octets("\x00"), octets("a"), octets("a\x00"), octets("z"), octets("\x7f"), octets("\x80"), octets("\xff"),
		{Kind: 6}, {Kind: math.MaxInt},
	}
	for i, a := range rising {
		for j, b := range rising {
			want := 0
			if i < j {
				want = -1
			} else if i > j {
				want = 1
			}
			if got := datum.Compare(a, b); got != want {
				t.Errorf("Compare(%v, %v): %d; want %d", a, b, got, want)
			}
		}
	}
}

// P1.4: a total order, of all values.
func TestTotalOrder(t *testing.T) {
	all := append(rightValues(), wrongValues()...)
	for _, a := range all {
		for _, b := range all {
			ab := datum.Compare(a, b)
			if (ab == 0) != (a == b) {
				t.Errorf("Compare(%v, %v): %d", a, b, ab)
			}
			if ba := datum.Compare(b, a); ba != -ab {
				t.Errorf("%v and %v: %d, and turned round %d", a, b, ab, ba)
			}
			if ab >= 0 {
				continue
			}
			for _, c := range all {
				if datum.Compare(b, c) < 0 && datum.Compare(a, c) != -1 {
					t.Errorf("%v < %v < %v, and not the first one < the last one", a, b, c)
				}
			}
		}
	}
}

// P1.4: OpLt of values of one Kind, not NULL, is Compare's -1.
func TestLessIsCompare(t *testing.T) {
	for _, a := range rightValues() {
		for _, b := range rightValues() {
			if a.Kind != b.Kind || a == null {
				continue
			}
			want := no
			if datum.Compare(a, b) == -1 {
				want = yes
			}
			gives(t, want, api.OpLt, a, b)
		}
	}
}
