package parse

import (
	"strconv"
	"strings"

	"freshet/api"
	"freshet/datum"
	"freshet/lex"
)

// Print writes a statement's tree as its text.
func Print(a api.Ast) (string, api.Errno) {
	if bad := Right(a); bad != api.OK {
		return "", bad
	}
	w := writer{tight: true}
	w.tree(a)
	s := w.text.String()
	// A text that is printed has tokens, if there is room for them.
	if _, bad, _ := lex.Lex(s); bad != api.OK {
		return "", api.ErrLong
	}
	return s, api.OK
}

// writer writes right trees.
type writer struct {
	text  strings.Builder
	tight bool // no blank stands ahead of what comes next
}

// put writes words, names, symbols and values.
func (w *writer) put(pieces ...string) {
	for _, piece := range pieces {
		if !w.tight && piece != "," && piece != ")" && piece != "." {
			w.text.WriteByte(' ')
		}
		w.text.WriteString(piece)
		w.tight = piece == "(" || piece == "."
	}
}

// putIf writes something, if it is there.
func (w *writer) putIf(there bool, pieces ...string) {
	if there {
		w.put(pieces...)
	}
}

// list writes trees with commas between.
func (w *writer) list(trees []api.Ast) {
	for i, a := range trees {
		w.putIf(i > 0, ",")
		w.tree(a)
	}
}

// enclosed writes trees between parentheses.
func (w *writer) enclosed(trees ...api.Ast) {
	w.put("(")
	w.list(trees)
	w.put(")")
}

// behind writes trees behind a word; nothing, if there are none.
func (w *writer) behind(word string, trees []api.Ast) {
	w.putIf(len(trees) > 0, word)
	w.list(trees)
}

func (w *writer) tree(a api.Ast) {
	switch {
	case among(a.Kind, expressions):
		w.expression(a)
	case among(a.Kind, queries):
		w.query(a)
	case a.Kind >= api.ASelect:
		w.part(a)
	default:
		w.statement(a)
	}
}

func (w *writer) statement(a api.Ast) {
	switch a.Kind {
	case api.ACreateTable:
		w.put("CREATE TABLE", a.Name)
		w.enclosed(a.Kids...)
	case api.ACreateView:
		w.put("CREATE VIEW", a.Name, "AS")
		w.list(a.Kids)
	case api.ACreateIndex:
		w.put("CREATE INDEX", a.Name, "ON", a.Alias)
		w.enclosed(a.Kids...)
	case api.ADrop:
		w.put("DROP", things()[a.Num-1], a.Name)
	case api.AInsert:
		w.put("INSERT INTO", a.Name, "VALUES")
		w.list(a.Kids)
	case api.ADelete:
		w.put("DELETE FROM", a.Name)
		w.behind("WHERE", a.Kids)
	case api.ASubscribe:
		w.put("SUBSCRIBE", a.Name)
	case api.AColDef:
		w.put(a.Name, types()[a.Num-1])
		w.putIf(a.Flag, "NOT NULL")
	case api.AName:
		w.put(a.Name)
	case api.ARow:
		w.enclosed(a.Kids...)
	}
}

func (w *writer) query(a api.Ast) {
	switch a.Kind {
	case api.ASelect:
		w.put("SELECT")
		w.putIf(a.Flag, "DISTINCT")
		for i, word := range [...]string{"", "FROM", "WHERE", "GROUP BY", "HAVING"} {
			w.putIf(i > 0 && len(a.Kids[i].Kids) > 0, word)
			w.list(a.Kids[i].Kids)
		}
	case api.ASet:
		w.side(a, 0)
		w.put(setWord(a.Num))
		w.putIf(a.Flag, "ALL")
		w.side(a, 1)
	case api.ATop:
		w.side(a, 0)
		w.behind("ORDER BY", a.Kids[1:])
		w.put("LIMIT", strconv.Itoa(a.Num))
	}
}

// side writes a query of an ASet or ATop.
func (w *writer) side(a api.Ast, i int) {
	if parted(a, i) {
		w.enclosed(a.Kids[i])
	} else {
		w.tree(a.Kids[i])
	}
}

// part writes what a query has that is no query.
func (w *writer) part(a api.Ast) {
	switch a.Kind {
	case api.AStar:
		w.put("*")
	case api.AItem:
		w.tree(a.Kids[0])
		w.putIf(a.Name != "", "AS", a.Name)
	case api.AKey:
		w.put(a.Name)
		w.putIf(a.Flag, "DESC")
	case api.ATable:
		w.put(a.Name)
		w.putIf(a.Alias != "", "AS", a.Alias)
	case api.ASub:
		w.putIf(a.Flag, "LATERAL")
		w.enclosed(a.Kids[0])
		w.put("AS", a.Alias)
	case api.AJoin:
		w.tree(a.Kids[0])
		w.putIf(a.Num == joinLeft, "LEFT")
		w.put("JOIN")
		w.tree(a.Kids[1])
		w.put("ON")
		w.tree(a.Kids[2])
	}
}

func (w *writer) expression(a api.Ast) {
	switch a.Kind {
	case api.ALit:
		w.put(datum.Print(a.Lit))
	case api.AColumn:
		w.putIf(a.Alias != "", a.Alias, ".")
		w.put(a.Name)
	case api.AOp:
		w.operation(a)
	case api.ACall:
		w.put(a.Name)
		w.tight = true
		w.put("(")
		w.putIf(a.Flag, "*")
		w.list(a.Kids)
		w.put(")")
	case api.AIn:
		w.operand(a.Kids[0])
		w.putIf(a.Flag, "NOT")
		w.put("IN")
		w.enclosed(a.Kids[1])
	case api.AExists:
		w.put("EXISTS")
		w.enclosed(a.Kids[0])
	case api.AScalar:
		w.enclosed(a.Kids[0])
	case api.ACase:
		w.cases(a)
	case api.AIsNull:
		w.operand(a.Kids[0])
		w.put("IS")
		w.putIf(a.Flag, "NOT")
		w.put("NULL")
	}
}

func (w *writer) operation(a api.Ast) {
	switch {
	case a.Num == api.OpNeg:
		// The parentheses keep it from being a number's sign, and from beginning a comment.
		w.put(sign(a.Num))
		w.tight = true
		w.enclosed(a.Kids[0])
	case operands(a.Num) == 1:
		w.put(sign(a.Num))
		w.operand(a.Kids[0])
	default:
		w.operand(a.Kids[0])
		w.put(sign(a.Num))
		w.operand(a.Kids[1])
	}
}

func (w *writer) operand(a api.Ast) {
	if among(a.Kind, 1<<api.AOp|1<<api.AIn|1<<api.AIsNull) {
		w.enclosed(a)
	} else {
		w.tree(a)
	}
}

func (w *writer) cases(a api.Ast) {
	w.put("CASE")
	for i, kid := range a.Kids {
		switch {
		case i%2 == 1:
			w.put("THEN")
		case i == len(a.Kids)-1:
			w.put("ELSE")
		default:
			w.put("WHEN")
		}
		w.tree(kid)
	}
	w.put("END")
}
