/-
  zset.fresh: a row of the same values in new memory.
-/
import Derived.Test.YtciijaejldfcaaaDatRow
import Derived.Test.YtciijaejldfcaaaShelf
namespace Go.Proofs.Ytciijaejldfcaaa
open Go.RowKit

/-- A row that a copy has room for. -/
def RowB (l : List Dat) : Prop := l.length * 32 ≤ 140737488355328 ∧ ∀ d ∈ l, d.s.size ≤ 281474976710656

/-- A row of the call's own, in a block of its own from base on. -/
def FreshV (w : World) (base : Nat) (v : Value) (l : List Dat) : Prop :=
  ∃ b, v = .slice (some ⟨b, 0, none⟩) l.length l.length ∧ base ≤ b ∧ Blk w b (l.flatMap cellsD).toArray 51

theorem FreshV.below {w w' : World} {base : Nat} {v : Value} {l : List Dat} (h : FreshV w base v l) (hb : Below w.heap.size w w') : FreshV w' base v l := by
  obtain ⟨b, e, hb1, hb2⟩ := h
  exact ⟨b, e, hb1, hb2.below hb⟩
theorem FreshV.row {w : World} {base : Nat} {v : Value} {l : List Dat} (h : FreshV w base v l) (hl : l.length ≤ maxLen) : RowV w v l := by
  obtain ⟨b, e, hb1, hb2⟩ := h
  refine .inr ⟨b, 0, l.length, e, hl, hb2.lt, fun k d hk => ?_⟩
  have c0 := cells_at l k 0 d hk (by omega)
  have c1 := cells_at l k 1 d hk (by omega)
  have c2 := cells_at l k 2 d hk (by omega)
  rw [hb2.cell, hb2.cell, hb2.cell]
  simp only [List.getElem?_toArray, Nat.zero_add]
  rw [c1, c2]
  rw [Nat.add_zero] at c0
  rw [c0]
  exact ⟨rfl, rfl, rfl⟩

theorem OwnD.fresh {w : World} {base g : Nat} {l : List Dat} (h : OwnD w base (.slice (some ⟨g, 0, none⟩) l.length l.length) l) : FreshV w base (.slice (some ⟨g, 0, none⟩) l.length l.length) l := by
  rcases h.2 with ⟨e, _⟩ | ⟨g', cap, cur, e, hbg, hh, _, _, hs, ht⟩
  · cases e
  · injection e with e1 e2 e3
    injection e1 with e1
    injection e1 with e4 e5
    subst e4 e3
    refine ⟨g, rfl, hbg, ?_⟩
    have : cur = (l.flatMap cellsD).toArray := by
      rw [← ht, ← hs, ← Array.length_toList, List.take_length]
    unfold Blk
    rw [hh, this]

def zeroD : Dat := ⟨0, 0, ⟨#[]⟩⟩

theorem made_zero (n : Nat) : (madeCells (Value.agg #[.int .i64 0, .int .i64 0, .string ⟨#[]⟩]).cells (n * 3)).toList = (List.replicate n zeroD).flatMap cellsD := by
  apply List.ext_getElem?
  intro i
  by_cases hi : i < n * 3
  · have h1 : (List.replicate n zeroD)[i / 3]? = some zeroD := by rw [List.getElem?_replicate, if_pos (by omega)]
    have h2 := cells_at _ _ (i % 3) zeroD h1 (Nat.mod_lt _ (by decide))
    rw [show i / 3 * 3 + i % 3 = i by omega] at h2
    rw [h2]
    unfold madeCells
    simp only [Array.getElem?_toList, Array.getElem?_map, Array.getElem?_range, hi, if_true, Option.map_some]
    have h3 : i % 3 < 3 := Nat.mod_lt _ (by decide)
    have h4 : (Value.agg #[.int .i64 0, .int .i64 0, .string ⟨#[]⟩]).cells = #[.int .i64 0, .int .i64 0, .string ⟨#[]⟩] := by simp [Value.cells]
    rw [h4]
    show some (#[Value.int .i64 0, .int .i64 0, .string ⟨#[]⟩][i % 3]!) = _
    generalize i % 3 = r at h3
    match r, h3 with
    | 0, _ => rfl
    | 1, _ => rfl
    | 2, _ => rfl
  · rw [List.getElem?_eq_none (by simp [madeCells]; omega), List.getElem?_eq_none (by rw [cells_len, List.length_replicate]; omega)]

theorem clone_any (s : ByteArray) (w : World) (h : s.size ≤ 281474976710656) : Calls Try.prog 64 #[.string s] w fun e w' => e = .returned (.string s) ∧ Below w.heap.size w w' := by
  have HX : Hid (∀ W, Calls Try.prog 78 #[.string s] W fun e w' => e = .returned (.string s) ∧ Below W.heap.size W w') := fun W => Any.stringslite_Clone Try.laysM316 s W h
  clear h
  go_enter Try.func64, Try.ntmps64
  go_wp2_with (go_at_call 78; refine (HX.out _).mono ?_; rintro e w1 ⟨rfl, hb1⟩)
  go_ret
  exact ⟨rfl, hb1⟩

/-- The values copied so far, and the places still to fill. -/
def partD (l : List Dat) (k : Nat) : List Dat := l.take k ++ List.replicate (l.length - k) zeroD
theorem partD_len (l : List Dat) (k : Nat) (hk : k ≤ l.length) : (partD l k).length = l.length := by unfold partD; simp; omega
theorem partD_set (l : List Dat) (k : Nat) (hk : k < l.length) : (partD l k).set k l[k] = partD l (k + 1) := by
  unfold partD
  rw [List.set_append, if_neg (by simp; omega), List.take_succ_eq_append_getElem hk, List.append_assoc]
  congr 1
  have : k - (l.take k).length = 0 := by simp; omega
  rw [this, show l.length - k = (l.length - (k + 1)) + 1 by omega, List.replicate_succ]
  rfl
theorem partD_all (l : List Dat) : partD l l.length = l := by unfold partD; simp

set_option maxRecDepth 100000 in
set_option maxHeartbeats 4000000 in
theorem fresh_nil (A : Option Addr) (c : Nat) (w : World) : Calls Try.prog 46 #[.slice A 0 c] w fun e w' => ∃ v', e = .returned v' ∧ FreshV w' w.heap.size v' [] ∧ Below w.heap.size w w' := by
  obtain ⟨i0, hi, hz0, hz1, hz2⟩ := info_parts Try.info51
  go_enter Try.func46, Try.ntmps46
  go_wp2_with (at_make; refine wpList_make_full _ rfl _ _ 42 rfl w.heap.size 51 i0 _ 3 Try.underlying42 hi hz0 hz1 .i64 .i64 _ _ 0 rfl rfl rfl rfl (by rw [hz2]; decide) (by unfold maxLen; decide) (Nat.le_refl _) ?_; intro w1 hown hg)
  rw [made_zero] at hown
  have hb1 : Below w.heap.size w w1 := (Below.refl _ w).grown hg (Nat.le_refl _) (by simp)
  have HF : Hid (FreshV w1 w.heap.size (.slice (some ⟨w.heap.size, 0, none⟩) 0 0) []) := OwnD.fresh (l := []) hown
  clear hown hg hi hz0 hz1 hz2
  go_loopw [11] (fun i wr => i = .int .i64 0 ∧ wr = w1) (fun _ _ => 0)
  case atStart => exact ⟨rfl, rfl⟩
  case round =>
    obtain ⟨rfl, rfl⟩ := hrel
    go_wp2
    go_ret
    exact ⟨_, rfl, HF.out, hb1⟩

set_option maxRecDepth 100000 in
set_option maxHeartbeats 4000000 in
theorem fresh_any (b off cap : Nat) (l : List Dat) (w : World) (hb : b < w.heap.size) (hr : RowAt w b off l) (hm : l.length ≤ maxLen) (hB : RowB l) :
    Calls Try.prog 46 #[.slice (some ⟨b, off, none⟩) l.length cap] w fun e w' => ∃ v', e = .returned v' ∧ FreshV w' w.heap.size v' l ∧ Below w.heap.size w w' := by
  obtain ⟨i0, hi, hz0, hz1, hz2⟩ := info_parts Try.info51
  have R := Lib.hid hr
  have HB := Lib.hid hB
  have hl32 := hB.1
  clear hr hB
  have hm2 := hm
  unfold maxLen at hm
  go_enter Try.func46, Try.ntmps46
  go_wp2_with (at_make; refine wpList_make_full _ rfl _ _ 42 rfl w.heap.size 51 i0 _ 3 Try.underlying42 hi hz0 hz1 .i64 .i64 _ _ l.length rfl rfl rfl rfl (by rw [hz2]; omega) hm2 (Nat.le_refl _) ?_; intro w1 hown hg)
  rw [made_zero] at hown
  have hb1 : Below w.heap.size w w1 := (Below.refl _ w).grown hg (Nat.le_refl _) (by simp)
  have ho1 : OwnD w1 w.heap.size (.slice (some ⟨w.heap.size, 0, none⟩) l.length l.length) (partD l 0) := by
    unfold OwnD partD
    simpa using hown
  clear hown hg hi hz0 hz1 hz2
  go_loopw [11] (fun i wr => ∃ k : Nat, k ≤ l.length ∧ i = .int .i64 k ∧ Below w.heap.size w wr ∧ OwnD wr w.heap.size (.slice (some ⟨w.heap.size, 0, none⟩) l.length l.length) (partD l k)) (fun i _ => l.length - (intOf i).toNat)
  case atStart => exact ⟨0, by omega, rfl, hb1, ho1⟩
  case round =>
    obtain ⟨k, hk, rfl, hb, ho⟩ := hrel
    have hz := hb.size
    by_cases hlt : k < l.length
    · have hd : l[k]? = some l[k] := List.getElem?_eq_getElem hlt
      obtain ⟨c0, c1, c2⟩ := R.out k _ hd
      have cr0 := hb.cell (p := ⟨b, off + k * 3, none⟩) ‹b < w.heap.size›
      have cr1 := hb.cell (p := ⟨b, off + k * 3 + 1, none⟩) ‹b < w.heap.size›
      have cr2 := hb.cell (p := ⟨b, off + k * 3 + 2, none⟩) ‹b < w.heap.size›
      rw [c0] at cr0
      rw [c1] at cr1
      rw [c2] at cr2
      have hs : l[k].s.size ≤ 281474976710656 := HB.out.2 _ (List.getElem_mem hlt)
      have hkp : k < (partD l k).length := by rw [partD_len l k hk]; exact hlt
      have hset := partD_set l k hlt
      have hpl := partD_len l k hk
      have hgl : w.heap.size < wr.heap.size := (ho.lt w.heap.size rfl).2
      have hrow : RowAt wr w.heap.size 0 (partD l k) := by
        rcases ho.row with ⟨A0, c0', e, e0⟩ | ⟨b', off', cap', e, _, _, hr⟩
        · rw [e0] at hkp; simp at hkp
        · injection e with e4 e5 e6
          injection e4 with e4
          injection e4 with e7 e8
          subst e7 e8
          exact hr
      have hdp : (partD l k)[k]? = some (partD l k)[k] := List.getElem?_eq_getElem hkp
      obtain ⟨p0, p1, p2⟩ := hrow k _ hdp
      rw [Nat.zero_add] at p0 p1 p2
      clear c0 c1 c2 hd hdp hrow
      have hfr : ∀ j, wr.frozen? ⟨w.heap.size, j, none⟩ = false := fun j => by
        have ho' := ho
        unfold OwnD at ho'
        rw [hpl] at ho'
        exact World.ownsRow.frozenAt ho' j
      have f0 := hfr (k * 3)
      have f1 := hfr (k * 3 + 1)
      have f2 := hfr (k * 3 + 2)
      have HO : Hid (∀ w2, Below wr.heap.size wr w2 → OwnD (((w2.setCell ⟨w.heap.size, k * 3, none⟩ (.int .i64 l[k].k)).setCell ⟨w.heap.size, k * 3 + 1, none⟩ (.int .i64 l[k].i)).setCell ⟨w.heap.size, k * 3 + 2, none⟩ (.string l[k].s)) w.heap.size (.slice (some ⟨w.heap.size, 0, none⟩) l.length l.length) (partD l (k + 1))) := by
        intro w2 h2
        have := (ho.below h2).put hpl hkp l[k]
        rwa [hset] at this
      obtain ⟨k2, i2, s2, q0, q1, q2⟩ : ∃ (k2 i2 : Int) (s2 : ByteArray), wr.cell? ⟨w.heap.size, k * 3, none⟩ = some (.int .i64 k2) ∧ wr.cell? ⟨w.heap.size, k * 3 + 1, none⟩ = some (.int .i64 i2) ∧ wr.cell? ⟨w.heap.size, k * 3 + 2, none⟩ = some (.string s2) := ⟨_, _, _, p0, p1, p2⟩
      clear hset p0 p1 p2 hkp hpl hfr ho
      revert cr0 cr1 cr2 HO hs
      generalize l[k] = d1
      obtain ⟨k1, i1, s1⟩ := d1
      intro cr0 cr1 cr2 hs HO
      simp only at HO hs
      have HC : Hid (∀ W, Calls Try.prog 64 #[.string s1] W fun e w' => e = .returned (.string s1) ∧ Below W.heap.size W w') := fun W => clone_any s1 W hs
      clear hs
      go_wp2_with (go_at_call 64; refine (HC.out _).mono ?_; rintro e w2 ⟨rfl, hb2⟩; have bD := Blk.below (b := wr.heap.size) (cs := #[.int .i64 k1, .int .i64 i1, .string s1]) (t := 51) (Blk.at rfl) hb2; have d0 := Blk.cell bD 0; have d1 := Blk.cell bD 1; have d2 := Blk.cell bD 2; have df2 := Blk.frozen bD 2; simp only [List.getElem?_toArray, List.getElem?_cons_zero, List.getElem?_cons_succ] at d0 d1 d2; have hb3 := Below.trans ((Below.refl wr.heap.size wr).alloc (Nat.le_refl _) (.cells #[.int .i64 k1, .int .i64 i1, .string s1] 51)) (hb2.mono (by simp)); have x0 := (hb3.cell (p := ⟨w.heap.size, k * 3, none⟩) hgl).trans q0; have x1 := (hb3.cell (p := ⟨w.heap.size, k * 3 + 1, none⟩) hgl).trans q1; have x2 := (hb3.cell (p := ⟨w.heap.size, k * 3 + 2, none⟩) hgl).trans q2; have y0 := (hb3.frozen (p := ⟨w.heap.size, k * 3, none⟩) hgl).trans f0; have y1 := (hb3.frozen (p := ⟨w.heap.size, k * 3 + 1, none⟩) hgl).trans f1; have y2 := (hb3.frozen (p := ⟨w.heap.size, k * 3 + 2, none⟩) hgl).trans f2)
      have hb5 : Below wr.heap.size wr (w2.setCell ⟨wr.heap.size, 2, none⟩ (.string s1)) := hb3.setCell (by simp) _
      go_roundw
      case rel => exact ⟨k + 1, by omega, by go_num, Below.setCell (Below.setCell (Below.setCell (hb.trans (hb5.mono hz)) (by simp) _) (by simp) _) (by simp) _, HO.out _ hb5⟩
      case measure => simp [intOf]; omega
    · obtain rfl : k = l.length := by omega
      rw [partD_all] at ho
      have HF : Hid (FreshV wr w.heap.size (.slice (some ⟨w.heap.size, 0, none⟩) l.length l.length) l) := ho.fresh
      clear ho
      go_wp2
      go_ret
      exact ⟨_, rfl, HF.out, hb⟩

theorem fresh_row (v : Value) (l : List Dat) (w : World) (hv : RowV w v l) (hB : RowB l) :
    Calls Try.prog 46 #[v] w fun e w' => ∃ v', e = .returned v' ∧ FreshV w' w.heap.size v' l ∧ Below w.heap.size w w' := by
  rcases hv with ⟨A, c, rfl, rfl⟩ | ⟨b, off, cap, rfl, hm, hb, hr⟩
  · exact fresh_nil A c w
  · exact fresh_any b off cap l w hb hr hm hB

end Go.Proofs.Ytciijaejldfcaaa
