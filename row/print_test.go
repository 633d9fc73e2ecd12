package row_test

import (
	"slices"
	"strings"
	"testing"

	"freshet/api"
	"freshet/datum"
	"freshet/row"
)

// P2.3: rows as literals.
func TestPrint(t *testing.T) {
	for _, x := range []struct {
		r    api.Row
		want string
	}{
		{nil, "()"}, {api.Row{}, "()"}, {api.Row{null}, "(NULL)"},
		{api.Row{integer(1), text("a")}, "(1, 'a')"},
		{api.Row{null, yes, no, integer(-7), decimal(-1), text("it's, "), octets("\x0a\xff")}, "(NULL, TRUE, FALSE, -7, -0.0001, 'it''s, ', x'0aff')"},
		{api.Row{text(""), text("")}, "('', '')"},
		// Nothing is printed of a value that may not be; its place stays.
		{api.Row{{Kind: 6}}, "()"}, {api.Row{integer(1), text("\xff"), integer(2)}, "(1, , 2)"}, {api.Row{{Kind: 6}, {Kind: 6}}, "(, )"},
		// No limit holds.
		{slices.Repeat(api.Row{null}, api.MaxWidth+1), "(" + strings.Repeat("NULL, ", api.MaxWidth) + "NULL)"},
	} {
		if got := row.Print(x.r); got != x.want {
			t.Errorf("Print(%.60v): %.60q; want %.60q", x.r, got, x.want)
		}
	}
}

// P2.3: each value's literal is datum.Print's.
func TestPrintIsOfLiterals(t *testing.T) {
	for _, r := range rows(append(risingValues(), wrongValues()...)) {
		var literals []string
		for _, d := range r {
			literals = append(literals, datum.Print(d))
		}
		if got, want := row.Print(r), "("+strings.Join(literals, ", ")+")"; got != want {
			t.Errorf("Print(%.60v): %.60q; want %.60q", r, got, want)
		}
	}
}
