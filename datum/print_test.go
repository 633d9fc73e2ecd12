package datum_test

import (
	"math"
	"strings"
	"testing"

	"freshet/api"
	"freshet/datum"
)

// P1.3: values as literals.
func TestPrint(t *testing.T) {
	for _, x := range []struct {
		d    api.Datum
		want string
	}{
		{null, "NULL"}, {yes, "TRUE"}, {no, "FALSE"},
		{integer(0), "0"}, {integer(7), "7"}, {integer(-7), "-7"},
		{integer(math.MaxInt64), "9223372036854775807"}, {integer(math.MinInt64), "-9223372036854775808"},
		{decimal(0), "0.0000"}, {decimal(1), "0.0001"}, {decimal(-1), "-0.0001"}, {decimal(-9999), "-0.9999"},
		{decimal(10000), "1.0000"}, {decimal(-10000), "-1.0000"}, {decimal(10203), "1.0203"}, {decimal(-15000), "-1.5000"},
		{decimal(math.MaxInt64), "922337203685477.5807"}, {decimal(math.MinInt64), "-922337203685477.5808"},
		{text(""), "''"}, {text("a'b"), "'a''b'"}, {text("'"), "''''"}, {text("''"), "''''''"}, {text("aß日\n\x00"), "'aß日\n\x00'"},
		{octets(""), "x''"}, {octets("\x0a\xff"), "x'0aff'"}, {octets("\x00'\x9b\xe1"), "x'00279be1'"},
		{text(strings.Repeat("'", api.MaxText)), strings.Repeat("'", 2*api.MaxText+2)},
		{octets(strings.Repeat("\xab", api.MaxText)), "x'" + strings.Repeat("ab", api.MaxText) + "'"},
	} {
		if got := datum.Print(x.d); got != x.want {
			t.Errorf("Print(%v): %q; want %q", x.d, got, x.want)
		}
	}
}

// P1.3: nothing is printed of a value that may not be.
func TestPrintWrong(t *testing.T) {
	for _, d := range wrongValues() {
		if got := datum.Print(d); got != "" {
			t.Errorf("Print(%v): %q", d, got)
		}
	}
}

// P1.3: no two values have one literal.
func TestPrintTellsApart(t *testing.T) {
	seen := map[string]api.Datum{}
	for _, d := range rightValues() {
		s := datum.Print(d)
		if e, ok := seen[s]; ok {
			t.Errorf("%v and %v are both %s", d, e, s)
		}
		seen[s] = d
	}
}
