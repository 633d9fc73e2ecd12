package row_test

import (
	"slices"
	"strings"
	"testing"
	"unsafe"

	"freshet/api"
	"freshet/row"
)

// spoil writes over a row and the spare room behind it.
func spoil(r api.Row) {
	r = r[:cap(r)]
	for i := range r {
		r[i] = text("spoilt")
	}
}

// R4: a row that is read is new memory, its spare room too: no two answers share any.
func TestReadIsNew(t *testing.T) {
	for n := range 40 {
		r := slices.Repeat(api.Row{integer(1), text("a")}, n)
		s, _ := row.Encode(r)
		first, _ := row.Decode(s)
		second, _ := row.Decode(s)
		spoil(first)
		if !slices.Equal(second, r) {
			t.Errorf("%d values: %v behind a change of another answer", len(r), second)
		}
		reads(t, s, r)
	}
}

// within tells whether a text's bytes are some of another's.
func within(part, whole string) bool {
	at, from := uintptr(unsafe.Pointer(unsafe.StringData(part))), uintptr(unsafe.Pointer(unsafe.StringData(whole)))
	return part != "" && at >= from && at < from+uintptr(len(whole))
}

// R4: a text that is read is no piece of what it was read from, nor is what is written.
func TestTextsAreNew(t *testing.T) {
	long := strings.Repeat("long enough to be a piece of something else", 20)
	r := api.Row{text(long), octets(long), text("a\x00b"), text("b")}
	s, _ := row.Encode(r)
	read, _ := row.Decode(s)
	for i, d := range read {
		if within(d.S, s) || within(d.S, long) {
			t.Errorf("value %d is a piece of an argument", i)
		}
		for _, e := range read[:i] {
			if within(d.S, e.S) {
				t.Errorf("value %d shares memory with one ahead of it", i)
			}
		}
	}
	if within(s, long) {
		t.Error("what is written is a piece of what was handed in")
	}
}

// R4: what is handed in is not changed, nor the spare room behind it.
func TestArgumentsStay(t *testing.T) {
	for _, r := range []api.Row{{text("a\x00"), integer(-1), octets("\xff")}, {yes, {Kind: 6}, null}, {integer(2), integer(1)}} {
		whole := append(slices.Clone(r), text("spare"), text("room"))
		want := slices.Clone(whole)
		part := whole[:len(r)]
		row.Encode(part)
		row.Print(part)
		row.Compare(part, whole)
		row.Compare(whole, part)
		if !slices.Equal(whole, want) {
			t.Errorf("%v became %v", want, whole)
		}
	}
}

// R5: nil and an empty row are the same.
func TestNilIsEmpty(t *testing.T) {
	if row.Compare(nil, api.Row{}) != 0 || row.Compare(api.Row{}, nil) != 0 || row.Compare(nil, api.Row{null}) != -1 || row.Compare(api.Row{null}, nil) != 1 {
		t.Error("nil is ordered otherwise than an empty row")
	}
	if row.Print(nil) != row.Print(api.Row{}) {
		t.Error("nil is printed otherwise than an empty row")
	}
	writes(t, nil, "")
	writes(t, api.Row{}, "")
}
