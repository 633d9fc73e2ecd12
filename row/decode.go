package row

import (
	"freshet/api"
	"freshet/datum"
)

// Decode reads the row whose bytes s is.
func Decode(s string) (api.Row, api.Errno) {
	var read api.Row
	for s != "" {
		d, rest, ok := cutValue(s)
		if !ok || len(read) == api.MaxWidth {
			return nil, api.ErrRow
		}
		read, s = append(read, d), rest
	}
	// A list that grew has spare room, which the one that is handed out shall not hold.
	r := make(api.Row, len(read))
	copy(r, read)
	return r, api.OK
}

// cutValue reads the value with which s, that is not empty, begins: it, what stands behind it, and whether it may be.
func cutValue(s string) (d api.Datum, rest string, ok bool) {
	d.Kind, rest, ok = int(s[0])-1, s[1:], true
	n := uint64(0)
	switch d.Kind {
	case api.Bool:
		n, rest, ok = cutNumber(rest, 1)
		d.I = int64(n)
	case api.Int, api.Dec:
		n, rest, ok = cutNumber(rest, 8)
		d.I = int64(n ^ topBit)
	case api.Text, api.Bytes:
		d.S, rest, ok = cutText(rest)
	}
	return d, rest, ok && datum.Right(d)
}

// cutNumber reads a number of size bytes, the highest first.
func cutNumber(s string, size int) (n uint64, rest string, ok bool) {
	if len(s) < size {
		return 0, "", false
	}
	for i := range size {
		n = n<<8 | uint64(s[i])
	}
	return n, s[size:], true
}

// cutText reads a text and its end. It gives up behind MaxText bytes, as no longer one may be. The text is new memory: a piece of s would keep all of s.
func cutText(s string) (text, rest string, ok bool) {
	var b []byte
	for i := 0; i+1 < len(s) && len(b) <= api.MaxText; i++ {
		if s[i] != 0 {
			b = append(b, s[i])
			continue
		}
		switch s[i+1] {
		case 0:
			return string(b), s[i+2:], true
		case 1:
			b = append(b, 0)
			i++
		default:
			return "", "", false
		}
	}
	return "", "", false
}
