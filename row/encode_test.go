package row_test

import (
	"math"
	"slices"
	"strings"
	"testing"

	"freshet/api"
	"freshet/row"
)

// P2.2: the bytes of each kind of value.
func TestBytes(t *testing.T) {
	for _, x := range []struct {
		r    api.Row
		want string
	}{
		{nil, ""}, {api.Row{}, ""},
		{api.Row{null}, "\x01"}, {api.Row{null, null}, "\x01\x01"},
		{api.Row{no}, "\x02\x00"}, {api.Row{yes}, "\x02\x01"},
		{api.Row{integer(0)}, "\x03\x80\x00\x00\x00\x00\x00\x00\x00"},
		{api.Row{integer(-1)}, "\x03\x7f\xff\xff\xff\xff\xff\xff\xff"},
		{api.Row{integer(0x0102030405060708)}, "\x03\x81\x02\x03\x04\x05\x06\x07\x08"},
		{api.Row{integer(math.MinInt64)}, "\x03\x00\x00\x00\x00\x00\x00\x00\x00"},
		{api.Row{integer(math.MaxInt64)}, "\x03\xff\xff\xff\xff\xff\xff\xff\xff"},
		{api.Row{decimal(0)}, "\x04\x80\x00\x00\x00\x00\x00\x00\x00"},
		{api.Row{decimal(-10000)}, "\x04\x7f\xff\xff\xff\xff\xff\xd8\xf0"},
		{api.Row{decimal(0x0102030405060708)}, "\x04\x81\x02\x03\x04\x05\x06\x07\x08"},
		{api.Row{decimal(math.MinInt64)}, "\x04\x00\x00\x00\x00\x00\x00\x00\x00"},
		{api.Row{text("")}, "\x05\x00\x00"}, {api.Row{text("ab")}, "\x05ab\x00\x00"},
		{api.Row{text("a\x00")}, "\x05a\x00\x01\x00\x00"}, {api.Row{text("\x00\x00\x01")}, "\x05\x00\x01\x00\x01\x01\x00\x00"}, {api.Row{text("ß")}, "\x05\xc3\x9f\x00\x00"},
		{api.Row{octets("")}, "\x06\x00\x00"}, {api.Row{octets("\xff\x00a")}, "\x06\xff\x00\x01a\x00\x00"},
		{api.Row{null, yes, integer(1)}, "\x01\x02\x01\x03\x80\x00\x00\x00\x00\x00\x00\x01"},
		{api.Row{text(""), text("\x00"), octets("x"), null, no}, "\x05\x00\x00\x05\x00\x01\x00\x00\x06x\x00\x00\x01\x02\x00"},
	} {
		writes(t, x.r, x.want)
	}
}

// P2.2: as many values, and values as long, as there may be.
func TestBytesAtTheLimits(t *testing.T) {
	writes(t, slices.Repeat(api.Row{null}, api.MaxWidth), strings.Repeat("\x01", api.MaxWidth))
	writes(t, slices.Repeat(api.Row{text("\x00")}, api.MaxWidth), strings.Repeat("\x05\x00\x01\x00\x00", api.MaxWidth))
	writes(t, api.Row{text(strings.Repeat("a", api.MaxText)), yes}, "\x05"+strings.Repeat("a", api.MaxText)+"\x00\x00\x02\x01")
	writes(t, api.Row{octets(strings.Repeat("\x00", api.MaxText)), yes}, "\x06"+strings.Repeat("\x00\x01", api.MaxText)+"\x00\x00\x02\x01")
	writes(t, slices.Repeat(api.Row{octets(strings.Repeat("\xff", api.MaxText))}, api.MaxWidth), strings.Repeat("\x06"+strings.Repeat("\xff", api.MaxText)+"\x00\x00", api.MaxWidth))
}

// P2.2: ErrLong of more than MaxWidth values.
func TestEncodeTooMany(t *testing.T) {
	for _, n := range []int{api.MaxWidth + 1, api.MaxWidth + 2, 3 * api.MaxWidth} {
		refuses(t, api.ErrLong, slices.Repeat(api.Row{null}, n))
		// ErrLong stands ahead of ErrArg.
		refuses(t, api.ErrLong, slices.Repeat(api.Row{{Kind: 6}}, n))
	}
}

// P2.2: ErrArg of a value that may not be, wherever it stands.
func TestEncodeWrongValues(t *testing.T) {
	for _, d := range wrongValues() {
		refuses(t, api.ErrArg, api.Row{d})
		refuses(t, api.ErrArg, api.Row{d, null, text("a")})
		refuses(t, api.ErrArg, api.Row{text("a"), d, yes})
		refuses(t, api.ErrArg, append(slices.Repeat(api.Row{integer(1)}, api.MaxWidth-1), d))
	}
}

// P2.4: what is written is read.
func TestWrittenIsRead(t *testing.T) {
	all := rows(risingValues())
	for _, a := range longValues() {
		all = append(all, api.Row{a}, api.Row{a, null, a}, api.Row{text("\x00"), a, octets("")})
	}
	for _, r := range all {
		s, bad := row.Encode(r)
		if bad != api.OK {
			t.Errorf("Encode(%.60v): error %d", r, bad)
		}
		reads(t, s, r)
	}
}
