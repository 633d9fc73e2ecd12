package zset_test

import (
	"slices"
	"testing"

	"freshet/api"
	"freshet/zset"
)

// P3.3: Tidy of tidy ones is the same; Settle of settled ones, too.
func TestAgainIsTheSame(t *testing.T) {
	rows, by := risingRows(), lot()
	for i := range 500 {
		tidy, bad := zset.Tidy(someCounts(by, rows, []int64{least, -2, -1, 0, 1, 2, 1 << 61}, i%8)...)
		if bad == api.OK {
			again, bad := zset.Tidy(tidy...)
			counts(t, again, bad, tidy...)
		}
		settled, bad := zset.Settle(someUpdates(by, rows, []int64{-1, 0, 7}, []int64{most, -2, -1, 0, 1, 2, -1 << 61}, i%20)...)
		if bad == api.OK {
			again, bad := zset.Settle(settled...)
			updates(t, again, bad, settled...)
		}
	}
}

// P3.3: Tidy of two lists is Tidy of what Tidy makes of each, and of one and its negative nothing.
func TestTidyOfTwo(t *testing.T) {
	rows, by := risingRows(), lot()
	numbers := []int64{-1 << 60, -3, -1, 0, 1, 2, 1 << 60}
	for i := range 500 {
		a, b := someCounts(by, rows, numbers, i%30), someCounts(by, rows, numbers, i%40)
		whole, badWhole := zset.Tidy(slices.Concat(a, b)...)
		tidyA, badA := zset.Tidy(a...)
		tidyB, badB := zset.Tidy(b...)
		minus, badMinus := zset.Negate(a)
		if badWhole != api.OK || badA != api.OK || badB != api.OK || badMinus != api.OK {
			continue
		}
		got, bad := zset.Tidy(slices.Concat(tidyA, tidyB)...)
		counts(t, got, bad, whole...)
		got, bad = zset.Tidy(slices.Concat(a, minus)...)
		counts(t, got, bad)
		got, bad = zset.Tidy(slices.Concat(minus, tidyA)...)
		counts(t, got, bad)
		got, bad = zset.Negate(minus)
		counts(t, got, bad, tidyA...)
	}
}

// P3.4: At is the same before and behind Settle, and behind Later from its time on.
func TestAtBehindSettleAndLater(t *testing.T) {
	rows, by := risingRows()[:12], lot()
	times := []int64{least, -2, 0, 1, 3, 4, most}
	for i := range 200 {
		l := someUpdates(by, rows, times, []int64{-1 << 60, -2, -1, 0, 1, 2, 1 << 60}, i%20)
		settled, badSettled := zset.Settle(l...)
		if badSettled != api.OK {
			continue
		}
		for j, time := range times {
			want, badWant := zset.At(l, time)
			got, bad := zset.At(settled, time)
			if bad != badWant || !slices.EqualFunc(got, want, sameCount) {
				t.Fatalf("at %d behind Settle: %v, error %d; want %v, error %d", time, got, bad, want, badWant)
			}
			for _, since := range times[:j+1] {
				later, bad := zset.Later(l, since)
				if bad != api.OK {
					continue
				}
				got, bad := zset.At(later, time)
				if bad != badWant || !slices.EqualFunc(got, want, sameCount) {
					t.Fatalf("at %d behind Later(%d): %v, error %d; want %v, error %d", time, since, got, bad, want, badWant)
				}
			}
		}
	}
}

// R6: nothing hangs on the order in which counts and updates are handed in.
func TestAnyOrder(t *testing.T) {
	rows, by := risingRows(), lot()
	for i := range 200 {
		l := someCounts(by, rows, []int64{-1 << 61, -1, 0, 1, 2, 1 << 61}, i%50)
		u := someUpdates(by, rows, []int64{1, 2, 3}, []int64{-1 << 61, -1, 0, 1, 2, 1 << 61}, i%50)
		wantTidy, badTidy := zset.Tidy(l...)
		wantSettled, badSettled := zset.Settle(u...)
		for range 5 {
			by.Shuffle(len(l), func(i, j int) { l[i], l[j] = l[j], l[i] })
			by.Shuffle(len(u), func(i, j int) { u[i], u[j] = u[j], u[i] })
			tidy, bad := zset.Tidy(l...)
			if bad != badTidy || !slices.EqualFunc(tidy, wantTidy, sameCount) {
				t.Fatalf("%v, error %d; in another order %v, error %d", tidy, bad, wantTidy, badTidy)
			}
			settled, bad := zset.Settle(u...)
			if bad != badSettled || !slices.EqualFunc(settled, wantSettled, sameUpdate) {
				t.Fatalf("%v, error %d; in another order %v, error %d", settled, bad, wantSettled, badSettled)
			}
		}
	}
}

// R1: many rows are no trouble.
func TestMany(t *testing.T) {
	const n = 200000
	var l []api.Count
	var u []api.Update
	for i := range int64(n) {
		r := api.Row{{Kind: api.Int, I: i * 7919 % n}}
		l = append(l, api.Count{Row: r, N: 1}, api.Count{Row: r[:0], N: 1})
		u = append(u, api.Update{Row: r, Time: i % 3, Diff: 1}, api.Update{Row: r[:0], Time: 5, Diff: 1})
	}
	tidy, bad := zset.Tidy(l...)
	if bad != api.OK || len(tidy) != n+1 || tidy[0].N != n {
		t.Fatalf("%d rows, error %d", len(tidy), bad)
	}
	settled, bad := zset.Settle(u...)
	if bad != api.OK || len(settled) != n+1 || settled[n].Diff != n {
		t.Fatalf("%d updates, error %d", len(settled), bad)
	}
}
