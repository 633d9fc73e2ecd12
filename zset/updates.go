package zset

import (
	"cmp"

	"freshet/api"
	"freshet/row"
)

// Settle adds up updates of one row and one time.
func Settle(l ...api.Update) ([]api.Update, api.Errno) {
	order := func(a, b api.Update) int {
		if a.Time != b.Time {
			return cmp.Compare(a.Time, b.Time)
		}
		return row.Compare(a.Row, b.Row)
	}
	count := func(u api.Update) sum { return sumOf(u.Diff) }
	told := func(u api.Update, n int64) api.Update {
		return api.Update{Row: fresh(u.Row), Time: u.Time, Diff: n}
	}
	return sums(l, order, count, told)
}

// At is what is there at a time.
func At(l []api.Update, time int64) ([]api.Count, api.Errno) {
	var there []api.Count
	for _, u := range l {
		if u.Time <= time {
			there = append(there, api.Count{Row: u.Row, N: u.Diff})
		}
	}
	return Tidy(there...)
}

// Later has nothing happen ahead of a time.
func Later(l []api.Update, time int64) ([]api.Update, api.Errno) {
	moved := make([]api.Update, len(l))
	for i, u := range l {
		u.Time = max(u.Time, time)
		moved[i] = u
	}
	return Settle(moved...)
}
