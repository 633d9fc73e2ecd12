package zset_test

import (
	"slices"
	"testing"

	"freshet/api"
	"freshet/row"
	"freshet/zset"
)

// P3.2: Settle adds up by row and time: by rising times, those of one time by rising rows, none of 0.
func TestSettle(t *testing.T) {
	for _, x := range []struct{ l, want []api.Update }{
		{nil, nil}, {[]api.Update{}, nil}, {[]api.Update{changed("a", 1, 0)}, nil},
		{[]api.Update{changed("a", 2, 1), changed("a", 1, 1), changed("a", 2, -1)}, []api.Update{changed("a", 1, 1)}},
		{[]api.Update{changed("a", 1, 1), changed("a", 1, 2), changed("b", 1, 4)}, []api.Update{changed("a", 1, 3), changed("b", 1, 4)}},
		// Time goes ahead of row.
		{[]api.Update{changed("a", 2, 1), changed("b", 1, 1), changed("a", 3, 1), changed("c", 1, 1), changed("b", 2, -1)}, []api.Update{changed("b", 1, 1), changed("c", 1, 1), changed("a", 2, 1), changed("b", 2, -1), changed("a", 3, 1)}},
		// What is the same at two times is two.
		{[]api.Update{changed("a", 2, -1), changed("a", 1, 1)}, []api.Update{changed("a", 1, 1), changed("a", 2, -1)}},
		{[]api.Update{changed("a", most, 1), changed("a", least, 2), changed("a", -1, 3), changed("a", 0, 4)}, []api.Update{changed("a", least, 2), changed("a", -1, 3), changed("a", 0, 4), changed("a", most, 1)}},
		{[]api.Update{changed("a", 1, most), changed("a", 2, most), changed("a", 1, 1), changed("a", 1, -1)}, []api.Update{changed("a", 1, most), changed("a", 2, most)}},
		{[]api.Update{changed("a", 1, least)}, []api.Update{changed("a", 1, least)}},
	} {
		l, bad := zset.Settle(x.l...)
		updates(t, l, bad, x.want...)
	}
}

// P3.2: ErrDiff of a sum without room, of one row at one time alone.
func TestSettleNoRoom(t *testing.T) {
	for _, l := range [][]api.Update{
		{changed("a", 1, most), changed("a", 1, 1)},
		{changed("a", 1, least), changed("b", 1, 1), changed("a", 1, -1)},
		{changed("a", 1, 1), changed("b", 2, 1<<62), changed("c", 3, 1), changed("b", 2, 1<<62)},
		{changed("a", 1, most), changed("a", 2, -1), changed("a", 1, 1)},
	} {
		got, bad := zset.Settle(l...)
		refused(t, got, bad)
		got, bad = zset.Later(l, least)
		refused(t, got, bad)
	}
}

// P3.2: At goes by the updates up to a time, it among them.
func TestAt(t *testing.T) {
	l := []api.Update{changed("b", 3, 1), changed("a", 1, 1), changed("a", 3, 1), changed("c", 2, -2), changed("a", 4, -2), changed("b", 3, 1)}
	for _, x := range []struct {
		time int64
		want []api.Count
	}{
		{least, nil}, {0, nil}, {1, []api.Count{counted("a", 1)}},
		{2, []api.Count{counted("a", 1), counted("c", -2)}},
		{3, []api.Count{counted("a", 2), counted("b", 2), counted("c", -2)}},
		{4, []api.Count{counted("b", 2), counted("c", -2)}}, {most, []api.Count{counted("b", 2), counted("c", -2)}},
	} {
		got, bad := zset.At(l, x.time)
		counts(t, got, bad, x.want...)
	}
	got, bad := zset.At(nil, 1)
	counts(t, got, bad)
	got, bad = zset.At([]api.Update{changed("a", least, 1), changed("a", most, 2)}, least)
	counts(t, got, bad, counted("a", 1))
	got, bad = zset.At([]api.Update{changed("a", least, 1), changed("a", most, 2)}, most)
	counts(t, got, bad, counted("a", 3))
}

// P3.2: At's error is that of the sum at that time: what comes later has no part in it.
func TestAtNoRoom(t *testing.T) {
	l := []api.Update{changed("a", 1, most), changed("a", 2, 1), changed("a", 3, -1)}
	got, bad := zset.At(l, 1)
	counts(t, got, bad, counted("a", most))
	got, bad = zset.At(l, 2)
	refused(t, got, bad)
	got, bad = zset.At(l, 3)
	counts(t, got, bad, counted("a", most))
	// Updates that Settle refuses have times at which all has room.
	l = []api.Update{changed("a", 2, most), changed("a", 2, 1), changed("a", 3, -1)}
	got, bad = zset.At(l, 1)
	counts(t, got, bad)
	got, bad = zset.At(l, 2)
	refused(t, got, bad)
	got, bad = zset.At(l, 3)
	counts(t, got, bad, counted("a", most))
}

// P3.2: Later has nothing happen ahead of a time.
func TestLater(t *testing.T) {
	l := []api.Update{changed("b", 3, 1), changed("a", 1, 1), changed("a", 3, -1), changed("c", 2, 5), changed("a", 4, 7)}
	for _, x := range []struct {
		time int64
		want []api.Update
	}{
		{least, []api.Update{changed("a", 1, 1), changed("c", 2, 5), changed("a", 3, -1), changed("b", 3, 1), changed("a", 4, 7)}},
		{1, []api.Update{changed("a", 1, 1), changed("c", 2, 5), changed("a", 3, -1), changed("b", 3, 1), changed("a", 4, 7)}},
		{2, []api.Update{changed("a", 2, 1), changed("c", 2, 5), changed("a", 3, -1), changed("b", 3, 1), changed("a", 4, 7)}},
		{3, []api.Update{changed("b", 3, 1), changed("c", 3, 5), changed("a", 4, 7)}},
		{most, []api.Update{changed("a", most, 7), changed("b", most, 1), changed("c", most, 5)}},
	} {
		got, bad := zset.Later(l, x.time)
		updates(t, got, bad, x.want...)
	}
	got, bad := zset.Later(nil, 1)
	updates(t, got, bad)
}

// P3.2: Later's error is Settle's, of the times that are moved.
func TestLaterNoRoom(t *testing.T) {
	l := []api.Update{changed("a", 1, most), changed("a", 2, 1), changed("a", 3, -1)}
	for time, room := range map[int64]bool{0: true, 1: true, 2: false, 3: true, 4: true} {
		got, bad := zset.Later(l, time)
		if room != (bad == api.OK) {
			t.Errorf("Later to %d: error %d", time, bad)
		}
		if !room {
			refused(t, got, bad)
		}
	}
	got, bad := zset.Later([]api.Update{changed("a", 1, most), changed("a", 1, 1), changed("a", 2, -1)}, 2)
	updates(t, got, bad, changed("a", 2, most))
}

// settled asks that updates stand by rising times, those of one time by rising rows, no two of one time and row, none of 0.
func settled(t *testing.T, l []api.Update) {
	t.Helper()
	for i, u := range l {
		if u.Diff == 0 || i > 0 && (l[i-1].Time > u.Time || l[i-1].Time == u.Time && row.Compare(l[i-1].Row, u.Row) >= 0) {
			t.Fatalf("not settled at place %d: %.200v", i, l)
		}
	}
}

// P3.2: Settle, At and Later of any updates, over rows with any values.
func TestUpdatesOfAnyRows(t *testing.T) {
	rows, times := risingRows(), []int64{least, -3, 0, 1, 2, most}
	by := lot()
	for i := range 500 {
		l := someUpdates(by, rows, times, []int64{-3, -2, -1, 0, 1, 2, 3}, i%60)
		all, bad := zset.Settle(l...)
		if bad != api.OK {
			t.Fatalf("error %d", bad)
		}
		settled(t, all)
		for _, time := range times {
			got, bad := zset.At(l, time)
			counts(t, got, bad, there(rows, l, func(u api.Update) bool { return u.Time <= time })...)
			then := func(u api.Update) bool { return u.Time == time }
			if !slices.EqualFunc(ofTime(all, time), there(rows, l, then), sameCount) {
				t.Fatalf("at the time %d: %.200v", time, all)
			}
			later, bad := zset.Later(l, time)
			if bad != api.OK {
				t.Fatalf("error %d", bad)
			}
			settled(t, later)
			if !slices.EqualFunc(ofTime(later, time), got, sameCount) {
				t.Fatalf("later than %d: %.200v", time, later)
			}
		}
	}
}

// there is what the chosen updates sum up to, of rising rows.
func there(rows []api.Row, l []api.Update, chosen func(api.Update) bool) []api.Count {
	var some, want []api.Count
	for _, u := range l {
		if chosen(u) {
			some = append(some, api.Count{Row: u.Row, N: u.Diff})
		}
	}
	for _, r := range rows {
		if n := summed(some, r).Int64(); n != 0 {
			want = append(want, api.Count{Row: r, N: n})
		}
	}
	return want
}

// ofTime are the updates of one time, as counts, in their order.
func ofTime(l []api.Update, time int64) []api.Count {
	var some []api.Count
	for _, u := range l {
		if u.Time == time {
			some = append(some, api.Count{Row: u.Row, N: u.Diff})
		}
	}
	return some
}
