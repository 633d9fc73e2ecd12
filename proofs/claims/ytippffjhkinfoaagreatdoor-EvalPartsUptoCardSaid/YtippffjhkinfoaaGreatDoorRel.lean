/-
  The contracts of datum's compareNumbers, holds and relate.
-/
import Derived.Test.YtippffjhkinfoaaGreatDoorScale
import Derived.Test.YtippffjhkinfoaaGreatDoorCmp
namespace Go.Proofs.YtippffjhkinfoaaGreatDoor
open Go.RowKit

theorem Blk.new' {W : World} {cs : Array Value} {t : TypeId} {n : Nat} (h : W.heap.size = n) : Blk (W.alloc (.cells cs t)) n cs t := h ▸ Blk.new W cs t

/-- A number comes back; memory of its own alone is made. -/
def IntPost (n : Int) (w : World) (e : Ending) (w' : World) : Prop := e = .returned (.int .i64 n) ∧ Below w.heap.size w w'

/-- The order of two numbers that datum.compareNumbers tells (kinds 2 and 3). -/
def cmpN (k1 i1 k2 i2 : Int) : Int :=
  if k1 = k2 then ordI i1 i2
  else if k1 = 2 then (if scB i1 = true then ordI (scV i1) i2 else ordI i1 0)
  else (if scB i2 = true then ordI i1 (scV i2) else ordI 0 i2)

theorem ordD_none (k i1 i2 : Int) : ordD k i1 noText k i2 noText = ordI i1 i2 := by
  unfold ordD
  rw [if_pos rfl]
  split
  · rename_i h; subst h; rw [ordI_self]; exact cb_self _
  · rfl

set_option maxHeartbeats 4000000 in
set_option maxRecDepth 100000 in
theorem cmpN_same (k i1 i2 : Int) (w : World) :
    Calls Tryz.prog 115 #[.agg #[.int .i64 k, .int .i64 i1, .string noText], .agg #[.int .i64 k, .int .i64 i2, .string noText]] w (IntPost (ordI i1 i2) w) := by
  have HO := Lib.hid (ordD_none k i1 i2)
  go_enter Tryz.func115, Tryz.ntmps115
  go_wp2_with (go_at_call 116; refine (compare_any _ _ _ _ _ _ _).mono ?_; rintro e w' ⟨rfl, hb⟩)
  go_ret
  refine ⟨by rw [HO.out]; rfl, Below.trans ?_ (hb.mono (by simp <;> omega))⟩
  repeat (first | exact Below.refl _ _ | assumption | refine Below.alloc ?_ (by simp <;> omega) _ | refine Below.setCell ?_ (by simp <;> omega) _)

set_option maxHeartbeats 4000000 in
set_option maxRecDepth 100000 in
theorem cmpN_id (i1 i2 : Int) (w : World) (h1 : -9223372036854775808 ≤ i1 ∧ i1 ≤ 9223372036854775807) :
    Calls Tryz.prog 115 #[.agg #[.int .i64 2, .int .i64 i1, .string noText], .agg #[.int .i64 3, .int .i64 i2, .string noText]] w (IntPost (cmpN 2 i1 3 i2) w) := by
  have HS := Lib.hid (fun w => scaled_int i1 noText w h1)
  obtain ⟨R, hR⟩ : ∃ R, R = cmpN 2 i1 3 i2 := ⟨_, rfl⟩
  rw [← hR]
  clear h1
  cases hb : scB i1
  all_goals
    simp [cmpN, hb] at hR
    rw [hb] at HS
    generalize scV i1 = V at *
    have HR := Lib.hid hR
    clear hR hb
    go_enter Tryz.func115, Tryz.ntmps115
    go_wp2_with (first
      | (go_at_call 110; (first | (with_reducible refine (HS.out _).mono ?_) | (with_reducible refine (scaled_dec _ _ _).mono ?_)); rintro e w' ⟨rfl, hb⟩; (first | (have hw2 := Below.trans hw2 (hb.mono (Below.size hw2)); replace hA := Blk.below hA hb; replace hB := Blk.below hB hb) | (have hw2 := Below.trans (((Below.refl w.heap.size w).alloc (Nat.le_refl _) _).alloc (by simp) _) (hb.mono (by simp <;> omega)); have hA := Blk.below (b := w.heap.size) (cs := #[.int .i64 2, .int .i64 i1, .string noText]) (t := 27) (by repeat (first | exact Blk.new' (by simp) | refine Blk.alloc ?_ _)) hb; have hB := Blk.below (b := w.heap.size + 1) (cs := #[.int .i64 3, .int .i64 i2, .string noText]) (t := 27) (by repeat (first | exact Blk.new' (by simp) | refine Blk.alloc ?_ _)) hb)); have zA0 := hA.cell 0; have zA1 := hA.cell 1; have zA2 := hA.cell 2; have zB0 := hB.cell 0; have zB1 := hB.cell 1; have zB2 := hB.cell 2; simp only [List.getElem?_toArray, List.getElem?_cons_zero, List.getElem?_cons_succ] at zA0 zA1 zA2 zB0 zB1 zB2)
      | (go_at_call 125; refine (cmpInt64_any _ _ _).mono ?_; rintro e w' ⟨rfl, rfl⟩))
    go_ret
    refine ⟨by rw [HR.out]; rfl, ?_⟩
    exact hw2

set_option maxHeartbeats 4000000 in
set_option maxRecDepth 100000 in
theorem cmpN_di (i1 i2 : Int) (w : World) (h1 : -9223372036854775808 ≤ i2 ∧ i2 ≤ 9223372036854775807) :
    Calls Tryz.prog 115 #[.agg #[.int .i64 3, .int .i64 i1, .string noText], .agg #[.int .i64 2, .int .i64 i2, .string noText]] w (IntPost (cmpN 3 i1 2 i2) w) := by
  have HS := Lib.hid (fun w => scaled_int i2 noText w h1)
  obtain ⟨R, hR⟩ : ∃ R, R = cmpN 3 i1 2 i2 := ⟨_, rfl⟩
  rw [← hR]
  clear h1
  cases hb : scB i2
  all_goals
    simp [cmpN, hb] at hR
    rw [hb] at HS
    generalize scV i2 = V at *
    have HR := Lib.hid hR
    clear hR hb
    go_enter Tryz.func115, Tryz.ntmps115
    go_wp2_with (first
      | (go_at_call 110; (first | (with_reducible refine (HS.out _).mono ?_) | (with_reducible refine (scaled_dec _ _ _).mono ?_)); rintro e w' ⟨rfl, hb⟩; (first | (have hw2 := Below.trans hw2 (hb.mono (Below.size hw2)); replace hA := Blk.below hA hb; replace hB := Blk.below hB hb) | (have hw2 := Below.trans (((Below.refl w.heap.size w).alloc (Nat.le_refl _) _).alloc (by simp) _) (hb.mono (by simp <;> omega)); have hA := Blk.below (b := w.heap.size) (cs := #[.int .i64 3, .int .i64 i1, .string noText]) (t := 27) (by repeat (first | exact Blk.new' (by simp) | refine Blk.alloc ?_ _)) hb; have hB := Blk.below (b := w.heap.size + 1) (cs := #[.int .i64 2, .int .i64 i2, .string noText]) (t := 27) (by repeat (first | exact Blk.new' (by simp) | refine Blk.alloc ?_ _)) hb)); have zA0 := hA.cell 0; have zA1 := hA.cell 1; have zA2 := hA.cell 2; have zB0 := hB.cell 0; have zB1 := hB.cell 1; have zB2 := hB.cell 2; simp only [List.getElem?_toArray, List.getElem?_cons_zero, List.getElem?_cons_succ] at zA0 zA1 zA2 zB0 zB1 zB2)
      | (go_at_call 125; refine (cmpInt64_any _ _ _).mono ?_; rintro e w' ⟨rfl, rfl⟩))
    go_ret
    refine ⟨by rw [HR.out]; rfl, ?_⟩
    exact hw2

/-- Do two that stand in an order stand as an operator says? -/
def holdsB (op n : Int) : Bool :=
  if op = 7 then n == 0 else if op = 8 then n != 0 else if op = 9 then decide (n < 0) else if op = 10 then decide (n ≤ 0) else if op = 11 then decide (0 < n) else decide (0 ≤ n)

set_option maxHeartbeats 4000000 in
theorem holds_any (op n : Int) (w : World) (h : op = 7 ∨ op = 8 ∨ op = 9 ∨ op = 10 ∨ op = 11 ∨ op = 12) :
    Calls Tryz.prog 114 #[.int .i64 op, .int .i64 n] w fun e w' => e = .returned (.bool (holdsB op n)) ∧ w' = w := by
  rcases h with rfl | rfl | rfl | rfl | rfl | rfl
  all_goals
    go_enter Tryz.func114, Tryz.ntmps114
    go_wp2
    go_ret
    exact ⟨rfl, rfl⟩

end Go.Proofs.YtippffjhkinfoaaGreatDoor
