package lower_test

import (
	"fmt"
	"strings"

	"freshet/api"
	"freshet/row"
)

// describe writes a plan's text, or its beginning, as it can be far more than anybody reads.
func describe(f api.Flat) string {
	var b strings.Builder
	write(&b, f)
	if b.Len() > 1500 {
		return b.String()[:1500] + ".."
	}
	return b.String()
}

func write(b *strings.Builder, f api.Flat) {
	if b.Len() > 1500 {
		return
	}
	kinds := []string{"Nothing", "Get", "Rows", "Map", "Filter", "Cols", "Join", "Union", "Negate", "Pos", "Distinct", "Reduce", "Top", "One", "Let"}
	name := fmt.Sprint("Kind", f.Kind)
	if 0 <= f.Kind && f.Kind < len(kinds) {
		name = kinds[f.Kind]
	}
	b.WriteString(name)
	if f.Name != "" {
		fmt.Fprintf(b, " %.30q", f.Name)
	}
	if f.Width != 0 {
		fmt.Fprintf(b, " width %d", f.Width)
	}
	for _, c := range f.Rows[:min(len(f.Rows), 40)] {
		fmt.Fprintf(b, " %d*%.300s", c.N, row.Print(c.Row))
	}
	for _, e := range f.Exprs[:min(len(f.Exprs), 40)] {
		b.WriteString(" {")
		writeExpr(b, e)
		b.WriteString("}")
	}
	if f.Cols != nil || f.More != nil || f.Desc != nil || f.Limit != 0 || f.Aggs != nil {
		fmt.Fprint(b, " ", f.Cols, f.More, f.Desc, f.Limit, f.Aggs)
	}
	for i, kid := range f.Kids {
		b.WriteString([]string{"(", ", "}[min(i, 1)])
		write(b, kid)
	}
	if len(f.Kids) > 0 {
		b.WriteString(")")
	}
}

func writeExpr(b *strings.Builder, e api.Expr) {
	switch {
	case b.Len() > 1500:
	case e.Kind == api.ELit:
		fmt.Fprintf(b, "%.100s", row.Print(api.Row{e.Lit}))
	case e.Kind == api.ECol:
		fmt.Fprintf(b, "%d.%d", e.Level, e.Col)
	default:
		fmt.Fprintf(b, "kind%d op%d", e.Kind, e.Op)
		for _, kid := range e.Kids {
			b.WriteString(" [")
			writeExpr(b, kid)
			b.WriteString("]")
		}
	}
}
