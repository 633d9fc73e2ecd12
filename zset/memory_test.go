package zset_test

import (
	"slices"
	"testing"
	"unsafe"

	"freshet/api"
	"freshet/zset"
)

// span is a piece of memory.
type span struct{ from, to uintptr }

// spanOf is that of a list, its spare room too.
func spanOf[T any](l []T) span {
	from := uintptr(unsafe.Pointer(unsafe.SliceData(l)))
	return span{from, from + uintptr(cap(l))*unsafe.Sizeof(*new(T))}
}

// ofRow are the pieces of a row: its list and its texts.
func ofRow(r api.Row) []span {
	l := []span{spanOf(r)}
	for _, d := range r {
		from := uintptr(unsafe.Pointer(unsafe.StringData(d.S)))
		l = append(l, span{from, from + uintptr(len(d.S))})
	}
	return l
}

// ofCounts and ofUpdates are all pieces of a list of them.
func ofCounts(l []api.Count) []span {
	all := []span{spanOf(l)}
	for _, c := range l {
		all = append(all, ofRow(c.Row)...)
	}
	return all
}

func ofUpdates(l []api.Update) []span {
	all := []span{spanOf(l)}
	for _, u := range l {
		all = append(all, ofRow(u.Row)...)
	}
	return all
}

// apart asks that no two of the answers' pieces share memory, nor one of them and one that was handed in.
func apart(t *testing.T, handed []span, answers ...[]span) {
	t.Helper()
	all := slices.Concat(answers...)
	for i, a := range all {
		for _, b := range slices.Concat(all[:i], handed) {
			if a.from < a.to && b.from < b.to && a.from < b.to && b.from < a.to {
				t.Fatal("an answer shares memory with another one, or with what was handed in")
			}
		}
	}
}

// handed is a row of texts with spare room.
func handed(s string) api.Row {
	r := make(api.Row, 0, 5)
	return append(r, api.Datum{Kind: api.Text, S: s + " is long enough"}, api.Datum{Kind: api.Bytes, S: s})
}

// handedCounts and handedUpdates have rows that share memory among themselves, and spare room.
func handedCounts() []api.Count {
	a, b := handed("a"), handed("b")
	return append(make([]api.Count, 0, 9), api.Count{Row: b, N: 1}, api.Count{Row: a[:1], N: 2}, api.Count{Row: a, N: 2}, api.Count{Row: b, N: 1}, api.Count{Row: b[:0], N: 3}, api.Count{Row: b[:0:0], N: -1})
}

func handedUpdates() []api.Update {
	a, b := handed("a"), handed("b")
	return append(make([]api.Update, 0, 9), api.Update{Row: b, Time: 2, Diff: 1}, api.Update{Row: b, Time: 1, Diff: 1}, api.Update{Row: a, Time: 1, Diff: 2}, api.Update{Row: a[:1], Time: 3, Diff: 1}, api.Update{Row: b[:0], Time: 0, Diff: 2})
}

// R4: what is answered is new memory, its spare room, its rows and their texts too.
func TestAnswersAreNew(t *testing.T) {
	l, u := handedCounts(), handedUpdates()
	var answers [][]span
	for range 2 {
		for _, call := range []func() ([]api.Count, api.Errno){
			func() ([]api.Count, api.Errno) { return zset.Tidy(l...) },
			func() ([]api.Count, api.Errno) { return zset.Negate(l) },
			func() ([]api.Count, api.Errno) { return zset.Positive(l) },
			func() ([]api.Count, api.Errno) { return zset.Distinct(l) },
			func() ([]api.Count, api.Errno) { return zset.At(u, 1) },
			func() ([]api.Count, api.Errno) { return zset.At(u, 3) },
		} {
			got, bad := call()
			if bad != api.OK || len(got) < 3 {
				t.Fatalf("%v, error %d", got, bad)
			}
			answers = append(answers, ofCounts(got))
		}
		for _, call := range []func() ([]api.Update, api.Errno){
			func() ([]api.Update, api.Errno) { return zset.Settle(u...) },
			func() ([]api.Update, api.Errno) { return zset.Later(u, 1) },
			func() ([]api.Update, api.Errno) { return zset.Later(u, 9) },
		} {
			got, bad := call()
			if bad != api.OK || len(got) < 4 {
				t.Fatalf("%v, error %d", got, bad)
			}
			answers = append(answers, ofUpdates(got))
		}
	}
	apart(t, slices.Concat(ofCounts(l), ofUpdates(u)), answers...)
}

// spoil writes over rows and the spare room behind them.
func spoil(l []api.Count) {
	for _, c := range l {
		r := c.Row[:cap(c.Row)]
		for i := range r {
			r[i] = api.Datum{Kind: api.Int, I: 77}
		}
	}
}

// R4: an answer's row does not change with the others, nor with what was handed in.
func TestAnswersStay(t *testing.T) {
	want, _ := zset.Tidy(handedCounts()...)
	for i := range want {
		l := handedCounts()
		got, bad := zset.Tidy(l...)
		spoil(l)
		counts(t, got, bad, want...)
		spoil(got[:i])
		spoil(got[i+1:])
		counts(t, got[i:i+1], bad, want[i])
	}
}

// R4: what is handed in is not changed, nor the spare room behind it, errors or not.
func TestArgumentsStay(t *testing.T) {
	tooMany := []api.Count{counted("b", 1), counted("a", most), counted("b", -1), counted("a", 1)}
	for _, l := range [][]api.Count{handedCounts(), tooMany, {counted("b", 0), counted("a", -1), counted("b", 3), counted("a", 0)}} {
		whole := append(slices.Clone(l), counted("spare", 5), counted("room", 5))
		part, rows := whole[:len(l)], make([]api.Row, len(whole))
		want := slices.Clone(whole)
		for i, c := range whole {
			rows[i] = slices.Clone(c.Row[:cap(c.Row)])
		}
		zset.Tidy(part...)
		zset.Negate(part)
		zset.Positive(part)
		zset.Distinct(part)
		counts(t, whole, api.OK, want...)
		for i, c := range whole {
			if !slices.Equal(c.Row[:cap(c.Row)], rows[i]) {
				t.Fatalf("row %d became %v", i, c.Row[:cap(c.Row)])
			}
		}
	}
}

// R4: the same of updates.
func TestUpdatesStay(t *testing.T) {
	tooMany := []api.Update{changed("b", 3, 1), changed("a", 2, most), changed("b", 1, 2), changed("a", 2, 1)}
	for _, l := range [][]api.Update{handedUpdates(), tooMany} {
		whole := append(slices.Clone(l), changed("spare", 0, 5), changed("room", 9, 5))
		part, rows := whole[:len(l)], make([]api.Row, len(whole))
		want := slices.Clone(whole)
		for i, u := range whole {
			rows[i] = slices.Clone(u.Row[:cap(u.Row)])
		}
		zset.Settle(part...)
		zset.At(part, 2)
		zset.Later(part, 2)
		updates(t, whole, api.OK, want...)
		for i, u := range whole {
			if !slices.Equal(u.Row[:cap(u.Row)], rows[i]) {
				t.Fatalf("row %d became %v", i, u.Row[:cap(u.Row)])
			}
		}
	}
}

// R5: nil and an empty list, or row, are the same.
func TestNilIsEmpty(t *testing.T) {
	l, bad := zset.Tidy(api.Count{Row: nil, N: 1}, api.Count{Row: api.Row{}, N: 2}, api.Count{Row: text("a")[:0], N: 4})
	counts(t, l, bad, api.Count{N: 7})
	u, bad := zset.Settle(api.Update{Row: nil, Time: 1, Diff: 1}, api.Update{Row: api.Row{}, Time: 1, Diff: 2})
	updates(t, u, bad, api.Update{Time: 1, Diff: 3})
	for _, empty := range [][]api.Count{nil, {}} {
		for _, call := range []func([]api.Count) ([]api.Count, api.Errno){zset.Negate, zset.Positive, zset.Distinct} {
			l, bad := call(empty)
			counts(t, l, bad)
		}
	}
	l, bad = zset.At([]api.Update{}, 0)
	counts(t, l, bad)
	u, bad = zset.Later([]api.Update{}, 0)
	updates(t, u, bad)
}
