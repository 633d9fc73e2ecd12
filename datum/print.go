package datum

import (
	"strconv"
	"strings"

	"freshet/api"
)

// Print writes a value as a literal: nothing of one that may not be.
func Print(d api.Datum) string {
	if !Right(d) {
		return ""
	}
	switch d.Kind {
	case api.Bool:
		return printBool(d.I == 1)
	case api.Int:
		return strconv.FormatInt(d.I, 10)
	case api.Dec:
		return printDec(d.I)
	case api.Text:
		return "'" + strings.ReplaceAll(d.S, "'", "''") + "'"
	case api.Bytes:
		return printBytes(d.S)
	}
	return "NULL"
}

func printBool(b bool) string {
	if b {
		return "TRUE"
	}
	return "FALSE"
}

func printDec(n int64) string {
	sign := ""
	if n < 0 {
		sign = "-"
	}
	whole := strconv.FormatUint(amount(n)/api.Scale, 10)
	// Scale more has the noughts ahead written, too, behind a 1 that is left out.
	rest := strconv.FormatUint(amount(n)%api.Scale+api.Scale, 10)
	return sign + whole + "." + rest[1:]
}

func printBytes(s string) string {
	const digits = "0123456789abcdef"
	var b strings.Builder
	b.WriteString("x'")
	for i := range len(s) {
		b.WriteByte(digits[s[i]>>4])
		b.WriteByte(digits[s[i]&15])
	}
	b.WriteByte('\'')
	return b.String()
}
