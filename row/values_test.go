package row_test

import (
	"math"
	"slices"
	"strings"
	"testing"

	"freshet/api"
	"freshet/row"
)

var (
	null = api.Datum{}
	yes  = api.Datum{Kind: api.Bool, I: 1}
	no   = api.Datum{Kind: api.Bool}
)

func integer(n int64) api.Datum { return api.Datum{Kind: api.Int, I: n} }

func decimal(n int64) api.Datum { return api.Datum{Kind: api.Dec, I: n} }

func text(s string) api.Datum { return api.Datum{Kind: api.Text, S: s} }

func octets(s string) api.Datum { return api.Datum{Kind: api.Bytes, S: s} }

// risingValues may all be, each ahead of the next one.
func risingValues() []api.Datum {
	l := []api.Datum{null, no, yes}
	numbers := []int64{math.MinInt64, math.MinInt64 + 1, -1 << 32, -65537, -65536, -257, -256, -255, -1, 0, 1, 127, 128, 255, 256, 65535, 65536, 1 << 32, 1 << 62, math.MaxInt64 - 1, math.MaxInt64}
	for _, n := range numbers {
		l = append(l, integer(n))
	}
	for _, n := range numbers {
		l = append(l, decimal(n))
	}
	texts := []string{"", "\x00", "\x00\x00", "\x00\x00\x00", "\x00\x00\x01", "\x00\x01", "\x00\x01\x00", "\x00\x02", "\x00a", "\x01", "\x01\x00", "\x01\x01", "\x02", "a", "a\x00", "a\x00\x00", "a\x00\x01", "a\x00b", "a\x01", "aa", "aß", "b", "ß", "日本", "\ufffd", "\U0010ffff"}
	for _, s := range texts {
		l = append(l, text(s))
	}
	for _, s := range texts {
		l = append(l, octets(s))
	}
	return append(l, octets("\xff"), octets("\xff\x00"), octets("\xff\x00\xff"), octets("\xff\xff"))
}

// longValues have as many bytes as there may be.
func longValues() []api.Datum {
	var l []api.Datum
	for _, s := range []string{"\x00", "\x01", "a", "ab", "a\x00", "ß"} {
		s = strings.Repeat(s, api.MaxText/len(s))
		l = append(l, text(s), octets(s))
	}
	return append(l, octets(strings.Repeat("\xff", api.MaxText)))
}

// wrongValues may not be, each by one thing alone.
func wrongValues() []api.Datum {
	return []api.Datum{
		{Kind: api.Null, I: 1}, {Kind: api.Null, S: "a"},
		{Kind: api.Bool, I: 2}, {Kind: api.Bool, I: -1}, {Kind: api.Bool, I: 256}, {Kind: api.Bool, I: 1, S: "a"},
		{Kind: api.Int, I: 1, S: "a"}, {Kind: api.Dec, I: 1, S: "a"},
		{Kind: api.Text, I: 1, S: "a"}, text("\xff"), text("a\xc3"), text("\xed\xa0\x80"), text(strings.Repeat("a", api.MaxText+1)), text(strings.Repeat("\x00", api.MaxText+1)),
		{Kind: api.Bytes, I: 1, S: "a"}, octets(strings.Repeat("a", api.MaxText+1)), octets(strings.Repeat("\x00", api.MaxText+1)),
		{Kind: 6}, {Kind: -1}, {Kind: 256}, {Kind: 255 + api.Int}, {Kind: math.MaxInt}, {Kind: math.MinInt},
	}
}

// rows are all rows of at most two of the values.
func rows(values []api.Datum) []api.Row {
	l := []api.Row{{}}
	for _, a := range values {
		l = append(l, api.Row{a})
		for _, b := range values {
			l = append(l, api.Row{a, b})
		}
	}
	return l
}

// writes asks that Encode answers just that, and that Decode reads it.
func writes(t *testing.T, r api.Row, want string) {
	t.Helper()
	if s, bad := row.Encode(r); bad != api.OK || s != want {
		t.Errorf("Encode(%.60v): %.60q, error %d; want %.60q", r, s, bad, want)
	}
	reads(t, want, r)
}

// reads asks that Decode answers just that.
func reads(t *testing.T, s string, want api.Row) {
	t.Helper()
	if r, bad := row.Decode(s); bad != api.OK || !slices.Equal(r, want) {
		t.Errorf("Decode(%.60q): %.60v, error %d; want %.60v", s, r, bad, want)
	}
}

// refuses asks that Encode answers that error, and nothing beside it.
func refuses(t *testing.T, want api.Errno, r api.Row) {
	t.Helper()
	if s, bad := row.Encode(r); bad != want || s != "" {
		t.Errorf("Encode(%.60v): %.60q, error %d; want error %d", r, s, bad, want)
	}
}

// noRow asks that Decode answers ErrRow, and nothing beside it.
func noRow(t *testing.T, s string) {
	t.Helper()
	if r, bad := row.Decode(s); bad != api.ErrRow || len(r) != 0 {
		t.Errorf("Decode(%.60q): %.60v, error %d; want error %d", s, r, bad, api.ErrRow)
	}
}
