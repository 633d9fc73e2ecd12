// Package datum is layer 1: values, their order, their operators, their literals. See shared/doc/01-datum.md.
package datum

import (
	"cmp"
	"strings"
	"unicode/utf8"

	"freshet/api"
)

// Right tells whether a value may be.
func Right(d api.Datum) bool {
	switch d.Kind {
	case api.Null:
		return d.I == 0 && d.S == ""
	case api.Bool:
		return (d.I == 0 || d.I == 1) && d.S == ""
	case api.Int, api.Dec:
		return d.S == ""
	case api.Text:
		return d.I == 0 && len(d.S) <= api.MaxText && utf8.ValidString(d.S)
	case api.Bytes:
		return d.I == 0 && len(d.S) <= api.MaxText
	}
	return false
}

// Compare orders two values, whether they may be or not: by Kind, then by I, then by S.
func Compare(a, b api.Datum) int {
	switch {
	case a.Kind != b.Kind:
		return cmp.Compare(a.Kind, b.Kind)
	case a.I != b.I:
		return cmp.Compare(a.I, b.I)
	}
	return strings.Compare(a.S, b.S)
}

// truth is a BOOL.
func truth(b bool) api.Datum {
	if b {
		return api.Datum{Kind: api.Bool, I: 1}
	}
	return api.Datum{Kind: api.Bool}
}

// isNull, isBool and isNumber tell of what kind a value is that may be.
func isNull(d api.Datum) bool { return d.Kind == api.Null }

func isBool(d api.Datum) bool { return d.Kind == api.Bool }

func isNumber(d api.Datum) bool { return d.Kind == api.Int || d.Kind == api.Dec }
