package row_test

import (
	"slices"
	"strings"
	"testing"

	"freshet/api"
	"freshet/datum"
	"freshet/row"
)

// P2.1: by the first place that is not the same, one that ends ahead of it first; also of values that may not be.
func TestCompare(t *testing.T) {
	rising := []api.Row{
		{}, {{Kind: -1}}, {{Kind: -1}, yes},
		{null}, {null, null}, {null, null, null}, {null, no}, {null, text("a")}, {null, {Kind: 9}}, {{Kind: api.Null, S: "a"}},
		{no}, {no, octets("z")}, {yes}, {yes, null}, {{Kind: api.Bool, I: 2}},
		{integer(-2), integer(9)}, {integer(-1), integer(3)}, {integer(-1), integer(3), integer(-9)}, {integer(-1), integer(4)}, {integer(1)}, {integer(1), null}, {integer(1), integer(0)}, {integer(1), integer(1)}, {integer(20000)},
		{decimal(-1)}, {decimal(1)}, {decimal(1), decimal(1)},
		{text("")}, {text(""), text("b")}, {text("B")}, {text("a")}, {text("a"), text("z")}, {text("a\x00")}, {text("aa")}, {text("b"), text("")}, {text("\xff")},
		{octets("")}, {octets("a")}, {octets("\xff")}, {{Kind: 6}},
	}
	for i, a := range rising {
		for j, b := range rising {
			want := 0
			if i < j {
				want = -1
			} else if i > j {
				want = 1
			}
			if got := row.Compare(a, b); got != want {
				t.Errorf("Compare(%v, %v): %d; want %d", a, b, got, want)
			}
			if got := row.Compare(slices.Clone(a), slices.Clone(b)); got != want {
				t.Errorf("Compare(%v, %v), of others that are the same: %d; want %d", a, b, got, want)
			}
		}
	}
}

// P2.1: values are compared as datum.Compare does, and no limit holds.
func TestCompareLongRows(t *testing.T) {
	long := slices.Repeat(api.Row{integer(1)}, api.MaxWidth+5)
	for _, a := range append(risingValues(), wrongValues()...) {
		for _, b := range append(risingValues(), wrongValues()...) {
			x, y := append(slices.Clone(long), a), append(slices.Clone(long), b)
			if got, want := row.Compare(x, y), datum.Compare(a, b); got != want {
				t.Errorf("%v and %v behind many: %d; want %d", a, b, got, want)
			}
		}
	}
	if got := row.Compare(long, long[:api.MaxWidth+4]); got != 1 {
		t.Errorf("a row and its beginning: %d", got)
	}
}

// P2.4: bytes of two rows stand in the order of the rows.
func TestBytesStandInTheRowsOrder(t *testing.T) {
	all := rows(risingValues())
	slices.SortFunc(all, row.Compare)
	written := make([]string, len(all))
	for i, r := range all {
		s, bad := row.Encode(r)
		if bad != api.OK {
			t.Fatalf("Encode(%v): error %d", r, bad)
		}
		written[i] = s
	}
	for i := 1; i < len(all); i++ {
		if row.Compare(all[i-1], all[i]) != -1 || written[i-1] >= written[i] {
			t.Errorf("%v and %v: %q and %q", all[i-1], all[i], written[i-1], written[i])
		}
	}
}

// P2.4: the same of any two, of rows of up to three.
func TestBytesCompareAsRows(t *testing.T) {
	values := []api.Datum{null, no, yes, integer(-1), integer(0), decimal(0), text(""), text("\x00"), text("\x00\x01"), text("\x01"), octets(""), octets("\x00"), octets("\xff")}
	all := rows(values)
	for _, r := range rows(values[:9]) {
		for _, d := range values {
			all = append(all, append(slices.Clone(r), d))
		}
	}
	written := make([]string, len(all))
	for i, r := range all {
		written[i], _ = row.Encode(r)
	}
	for i, a := range all {
		for j, b := range all {
			if got, want := strings.Compare(written[i], written[j]), row.Compare(a, b); got != want {
				t.Fatalf("%v and %v: bytes %d, rows %d", a, b, got, want)
			}
		}
	}
}
