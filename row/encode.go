package row

import (
	"freshet/api"
	"freshet/datum"
)

// topBit is turned round in a number, so that those below 0 stand ahead of the others.
const topBit = 1 << 63

// Encode writes a row's bytes, whose order is the rows'.
func Encode(r api.Row) (string, api.Errno) {
	if len(r) > api.MaxWidth {
		return "", api.ErrLong
	}
	var b []byte
	for _, d := range r {
		if !datum.Right(d) {
			return "", api.ErrArg
		}
		b = appendValue(b, d)
	}
	return string(b), api.OK
}

// appendValue writes a value that may be.
func appendValue(b []byte, d api.Datum) []byte {
	b = append(b, byte(d.Kind+1))
	switch d.Kind {
	case api.Bool:
		return append(b, byte(d.I))
	case api.Int, api.Dec:
		return appendNumber(b, uint64(d.I)^topBit)
	case api.Text, api.Bytes:
		return appendText(b, d.S)
	}
	return b
}

// appendNumber writes eight bytes, the highest first: so their order is the numbers'.
func appendNumber(b []byte, n uint64) []byte {
	for shift := 56; shift >= 0; shift -= 8 {
		b = append(b, byte(n>>shift))
	}
	return b
}

// appendText writes a text and its end. An end is less than a 0 that is the text's own, which has a 1 behind it: so a text stands ahead of all that it is the beginning of.
func appendText(b []byte, s string) []byte {
	for i := range len(s) {
		b = append(b, s[i])
		if s[i] == 0 {
			b = append(b, 1)
		}
	}
	return append(b, 0, 0)
}
