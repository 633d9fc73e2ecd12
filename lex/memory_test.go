package lex_test

import (
	"slices"
	"testing"
	"unsafe"

	"freshet/api"
	"freshet/lex"
)

// span is a piece of memory.
type span struct{ from, to uintptr }

func ofText(s string) span {
	from := uintptr(unsafe.Pointer(unsafe.StringData(s)))
	return span{from, from + uintptr(len(s))}
}

// ofTokens are the pieces of an answer: its list, with the spare room, and its texts.
func ofTokens(l []api.Token) []span {
	from := uintptr(unsafe.Pointer(unsafe.SliceData(l)))
	all := []span{{from, from + uintptr(cap(l))*unsafe.Sizeof(api.Token{})}}
	for _, one := range l {
		all = append(all, ofText(one.S), ofText(one.Lit.S))
	}
	return all
}

// R4: what is answered is new memory, its spare room and its texts too.
func TestAnswersAreNew(t *testing.T) {
	s := "SELECT select a_name A_NAME a a ( ( <= <= 'it''s' 'text' 'text' '' x'00' x'0011' x'' 1 1.5 a"
	first, _, _ := lex.Lex(s)
	second, bad, _ := lex.Lex(s)
	if bad != api.OK || len(first) != 21 {
		t.Fatalf("%v, error %d", first, bad)
	}
	all := slices.Concat([]span{ofText(s)}, ofTokens(first), ofTokens(second))
	for i, a := range all {
		for _, b := range all[:i] {
			if a.from < a.to && b.from < b.to && a.from < b.to && b.from < a.to {
				t.Fatal("an answer shares memory with another one, or with what was handed in")
			}
		}
	}
}

// R4, R6: an answer does not change with another one, and is the same again.
func TestAnswersStay(t *testing.T) {
	for _, s := range []string{"", "a", "SELECT a, 'b' FROM t -- x", "1 2 3 4 5"} {
		want, _, _ := lex.Lex(s)
		spoilt, _, _ := lex.Lex(s)
		spoilt = spoilt[:cap(spoilt)]
		for i := range spoilt {
			spoilt[i] = name("spoilt", i)
		}
		reads(t, s, want[:len(want)-1]...)
	}
}
