package row_test

import (
	"slices"
	"strings"
	"testing"

	"freshet/api"
	"freshet/row"
)

// P2.2: bytes that are no row's, behind a value and ahead of one, too.
func TestDecodeWrongBytes(t *testing.T) {
	for _, s := range []string{
		"\x00", "\x07", "\x08", "\x80", "\xff", "a",
		"\x02", "\x02\x02", "\x02\x80", "\x02\xff",
		"\x03", "\x03\x80", "\x03\x80\x00\x00\x00\x00\x00\x00", "\x04", "\x04\x80\x00\x00\x00\x00\x00\x00",
		"\x05", "\x05\x00", "\x05a", "\x05a\x00", "\x05a\x00\x01", "\x05a\x00\x01\x00", "\x05a\x00\x02\x00\x00", "\x05a\x00a\x00\x00", "\x05\x00\xff\x00\x00",
		"\x05\xff\x00\x00", "\x05\xc3\x00\x00", "\x05\xc3\x00\x01\x9f\x00\x00", "\x05\xed\xa0\x80\x00\x00",
		"\x06", "\x06\x00", "\x06\xff", "\x06\xff\x00", "\x06\x00\x01", "\x06\x00\x01\x00", "\x06\x00\x02\x00\x00",
	} {
		noRow(t, s)
		noRow(t, "\x02\x01"+s)
		noRow(t, "\x05\x00\x01\x00\x00\x01"+s)
	}
	for _, s := range []string{"\x00", "\x07", "\x02\x02", "\x05\xff\x00\x00", "\x05\x00\x02\x00\x00", "\x06\x00\x02\x00\x00"} {
		noRow(t, s+"\x01")
		noRow(t, s+"\x02\x01")
	}
}

// P2.2: each first byte, and each second one of a BOOL, and of a 0 in a text.
func TestDecodeEachByte(t *testing.T) {
	for n := range 256 {
		b := string([]byte{byte(n)})
		switch n {
		case 1:
			reads(t, b, api.Row{null})
		default:
			noRow(t, b)
		}
		switch n {
		case 0, 1:
			reads(t, "\x02"+b, api.Row{{Kind: api.Bool, I: int64(n)}})
		default:
			noRow(t, "\x02"+b)
		}
		switch n {
		case 0: // the text ends there, and what is behind it is no value
			noRow(t, "\x06\x00"+b+"\x00\x00")
		case 1:
			reads(t, "\x06\x00"+b+"\x00\x00", api.Row{octets("\x00")})
		default:
			noRow(t, "\x06\x00"+b+"\x00\x00")
			reads(t, "\x06"+b+"\x00\x00", api.Row{octets(b)})
		}
	}
}

// P2.2: of more than MaxWidth values there is no row.
func TestDecodeTooMany(t *testing.T) {
	for _, s := range []string{"\x01", "\x02\x00", "\x03\x80\x00\x00\x00\x00\x00\x00\x00", "\x05\x00\x00"} {
		if r, bad := row.Decode(strings.Repeat(s, api.MaxWidth)); bad != api.OK || len(r) != api.MaxWidth {
			t.Errorf("%d times %q: %d values, error %d", api.MaxWidth, s, len(r), bad)
		}
		noRow(t, strings.Repeat(s, api.MaxWidth+1))
		noRow(t, strings.Repeat(s, 3*api.MaxWidth))
		noRow(t, strings.Repeat(s, api.MaxWidth)+"\x07")
	}
}

// P2.2: of a text that is longer than MaxText bytes there is no row.
func TestDecodeTooLong(t *testing.T) {
	for _, kind := range []string{"\x05", "\x06"} {
		for _, b := range []string{"a", "\x00\x01", "\x01"} {
			reads(t, kind+strings.Repeat(b, api.MaxText)+"\x00\x00", api.Row{{Kind: int(kind[0]) - 1, S: strings.Repeat(b[:1], api.MaxText)}})
			for _, n := range []int{api.MaxText + 1, api.MaxText + 2, 100 * api.MaxText} {
				noRow(t, kind+strings.Repeat(b, n)+"\x00\x00")
				noRow(t, kind+strings.Repeat(b, n))
			}
		}
	}
	reads(t, "\x05"+strings.Repeat("ß", api.MaxText/2)+"\x00\x00", api.Row{text(strings.Repeat("ß", api.MaxText/2))})
	noRow(t, "\x05"+strings.Repeat("ß", api.MaxText/2)+"a\x00\x00")
}

// P2.2: a beginning of a row's bytes is a row's just if it ends with a value.
func TestDecodeBeginnings(t *testing.T) {
	r := api.Row{yes, null, integer(-5), text("a\x00b"), octets(""), decimal(7), octets("\x00\x00\xff"), no, text("ß")}
	ends := map[int]int{0: 0}
	whole := ""
	for i, d := range r {
		s, _ := row.Encode(api.Row{d})
		whole += s
		ends[len(whole)] = i + 1
	}
	writes(t, r, whole)
	for n := range len(whole) + 1 {
		if i, ok := ends[n]; ok {
			reads(t, whole[:n], r[:i])
		} else {
			noRow(t, whole[:n])
		}
	}
}

// P2.4: what is read is written just so, of all strings of a few bytes; and none is read that no row has.
func TestReadIsWritten(t *testing.T) {
	const bytes = "\x00\x01\x02\x05\x06\x07a\xc3\x9f"
	level, found := []string{""}, 0
	for range 6 {
		var next []string
		for _, s := range level {
			for i := range len(bytes) {
				next = append(next, s+bytes[i:i+1])
			}
		}
		for _, s := range next {
			r, bad := row.Decode(s)
			if bad != api.OK {
				noRow(t, s)
				continue
			}
			found++
			if again, worse := row.Encode(r); worse != api.OK || again != s {
				t.Fatalf("Decode(%q): %v; written %q, error %d", s, r, again, worse)
			}
		}
		level = next
	}
	if found == 0 {
		t.Error("nothing is read")
	}
}

// P2.4: and of bytes that are a row's but for one.
func TestReadIsWrittenOfChanges(t *testing.T) {
	s, _ := row.Encode(api.Row{no, integer(1 << 40), text("a\x00ß"), null, octets("\x00\xff"), decimal(-3)})
	for i := range len(s) {
		for n := range 256 {
			changed := s[:i] + string([]byte{byte(n)}) + s[i+1:]
			r, bad := row.Decode(changed)
			if bad != api.OK {
				noRow(t, changed)
			} else if again, worse := row.Encode(r); worse != api.OK || again != changed {
				t.Errorf("Decode(%q): %v; written %q, error %d", changed, r, again, worse)
			}
		}
	}
}

// R6: what was read ahead changes nothing.
func TestDecodeKeepsNothing(t *testing.T) {
	r := api.Row{text("a"), integer(1)}
	s, _ := row.Encode(r)
	for range 3 {
		reads(t, s, r)
		noRow(t, s+"\x07")
		if got, _ := row.Encode(slices.Clone(r)); got != s {
			t.Errorf("%q; want %q", got, s)
		}
	}
}
