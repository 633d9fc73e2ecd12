/-
  The contracts of datum's relate, case by case.
-/
import Derived.Test.YtippffjhkinfoaaGreatDoorRel
namespace Go.Proofs.YtippffjhkinfoaaGreatDoor
open Go.RowKit

set_option maxHeartbeats 4000000 in
set_option maxRecDepth 100000 in
theorem rel_null1 (op k1 i1 : Int) (s1 : ByteArray) (k2 i2 : Int) (s2 : ByteArray) (h : k1 = 0) (w : World) :
    Calls Tryz.prog 90 #[.int .i64 op, .agg #[.int .i64 k1, .int .i64 i1, .string s1], .agg #[.int .i64 k2, .int .i64 i2, .string s2]] w (ResPost 0 0 0 w) := by
  subst h
  go_enter Tryz.func90, Tryz.ntmps90
  go_wp2_with (first
      | (go_at_call 86; refine (isNull_any _ _ _ _).mono ?_; rintro e w' ⟨rfl, rfl⟩)
      | (go_at_call 109; refine (isNumber_any _ _ _ _).mono ?_; rintro e w' ⟨rfl, rfl⟩)
      | (go_at_call 85; refine (truth_any _ _).mono ?_; rintro e w' ⟨rfl, rfl⟩)
      | (go_at_call 114; refine (holds_any _ _ _ (by omega)).mono ?_; rintro e w' ⟨rfl, rfl⟩))
  refine bodyPost_ret ?_ rfl ⟨rfl, ?_⟩
  · simp [results, Tryz.results90, go_sem]
  · repeat (first | exact Below.refl _ _ | assumption | refine Below.alloc ?_ (by simp <;> omega) _ | refine Below.setCell ?_ (by simp <;> omega) _)

set_option maxHeartbeats 4000000 in
set_option maxRecDepth 100000 in
theorem rel_null2 (op k1 i1 : Int) (s1 : ByteArray) (k2 i2 : Int) (s2 : ByteArray) (h : k1 ≠ 0) (h2 : k2 = 0) (w : World) :
    Calls Tryz.prog 90 #[.int .i64 op, .agg #[.int .i64 k1, .int .i64 i1, .string s1], .agg #[.int .i64 k2, .int .i64 i2, .string s2]] w (ResPost 0 0 0 w) := by
  subst h2
  have e1 : (k1 == 0) = false := by simpa using h
  clear h
  go_enter Tryz.func90, Tryz.ntmps90
  go_wp2_with (first
      | (go_at_call 86; refine (isNull_any _ _ _ _).mono ?_; rintro e w' ⟨rfl, rfl⟩)
      | (go_at_call 109; refine (isNumber_any _ _ _ _).mono ?_; rintro e w' ⟨rfl, rfl⟩)
      | (go_at_call 85; refine (truth_any _ _).mono ?_; rintro e w' ⟨rfl, rfl⟩)
      | (go_at_call 114; refine (holds_any _ _ _ (by omega)).mono ?_; rintro e w' ⟨rfl, rfl⟩))
  refine bodyPost_ret ?_ rfl ⟨rfl, ?_⟩
  · simp [results, Tryz.results90, go_sem]
  · repeat (first | exact Below.refl _ _ | assumption | refine Below.alloc ?_ (by simp <;> omega) _ | refine Below.setCell ?_ (by simp <;> omega) _)

set_option maxHeartbeats 4000000 in
set_option maxRecDepth 100000 in
theorem rel_type (op k1 i1 : Int) (s1 : ByteArray) (k2 i2 : Int) (s2 : ByteArray) (h : k1 ≠ 0) (h2 : k2 ≠ 0) (hn : numB k1 = false ∨ (numB k1 = true ∧ numB k2 = false)) (hk : k1 ≠ k2) (w : World) :
    Calls Tryz.prog 90 #[.int .i64 op, .agg #[.int .i64 k1, .int .i64 i1, .string s1], .agg #[.int .i64 k2, .int .i64 i2, .string s2]] w (ResPost 0 0 5 w) := by
  have e1 : (k1 == 0) = false := by simpa using h
  have e2 : (k2 == 0) = false := by simpa using h2
  have e3 : (k1 == k2) = false := by simpa using hk
  clear h h2 hk
  rcases hn with hn | ⟨hn, hn2⟩
  all_goals
    go_enter Tryz.func90, Tryz.ntmps90
    go_wp2_with (first
        | (go_at_call 86; refine (isNull_any _ _ _ _).mono ?_; rintro e w' ⟨rfl, rfl⟩)
        | (go_at_call 109; refine (isNumber_any _ _ _ _).mono ?_; rintro e w' ⟨rfl, rfl⟩)
        | (go_at_call 85; refine (truth_any _ _).mono ?_; rintro e w' ⟨rfl, rfl⟩)
        | (go_at_call 114; refine (holds_any _ _ _ (by omega)).mono ?_; rintro e w' ⟨rfl, rfl⟩))
    refine bodyPost_ret ?_ rfl ⟨rfl, ?_⟩
    · simp [results, Tryz.results90, go_sem]
    · repeat (first | exact Below.refl _ _ | assumption | refine Below.alloc ?_ (by simp <;> omega) _ | refine Below.setCell ?_ (by simp <;> omega) _)

set_option maxHeartbeats 4000000 in
set_option maxRecDepth 100000 in
theorem rel_num (op k1 i1 : Int) (s1 : ByteArray) (k2 i2 : Int) (s2 : ByteArray) (n : Int) (ho : op = 7 ∨ op = 8 ∨ op = 9 ∨ op = 10 ∨ op = 11 ∨ op = 12) (h : numB k1 = true) (h2 : numB k2 = true) (HN : Hid (∀ w : World, Calls Tryz.prog 115 #[.agg #[.int .i64 k1, .int .i64 i1, .string s1], .agg #[.int .i64 k2, .int .i64 i2, .string s2]] w (IntPost n w))) (w : World) :
    Calls Tryz.prog 90 #[.int .i64 op, .agg #[.int .i64 k1, .int .i64 i1, .string s1], .agg #[.int .i64 k2, .int .i64 i2, .string s2]] w (ResPost 1 (bitOf (holdsB op n)) 0 w) := by
  have e1 : (k1 == 0) = false := by unfold numB at h; simp at h ⊢; omega
  have e2 : (k2 == 0) = false := by unfold numB at h2; simp at h2 ⊢; omega
  go_enter Tryz.func90, Tryz.ntmps90
  go_wp2_with (first
      | (go_at_call 86; refine (isNull_any _ _ _ _).mono ?_; rintro e w' ⟨rfl, rfl⟩)
      | (go_at_call 109; refine (isNumber_any _ _ _ _).mono ?_; rintro e w' ⟨rfl, rfl⟩)
      | (go_at_call 85; refine (truth_any _ _).mono ?_; rintro e w' ⟨rfl, rfl⟩)
      | (go_at_call 114; refine (holds_any _ _ _ (by omega)).mono ?_; rintro e w' ⟨rfl, rfl⟩)
      | (go_at_call 115; (with_reducible refine (HN.out _).mono ?_); rintro e w' ⟨rfl, hb⟩; have hR := Blk.below (b := w.heap.size + 1 + 1) (cs := #[.int .i64 0, .int .i64 0, .string noText]) (t := 27) (by repeat (first | exact Blk.new' (by simp) | refine Blk.alloc ?_ _)) hb; have r0 := hR.cell 0; have r1 := hR.cell 1; have r2 := hR.cell 2; have f0 := hR.frozen 0; have f1 := hR.frozen 1; have f2 := hR.frozen 2; have hlt := hR.lt; simp only [List.getElem?_toArray, List.getElem?_cons_zero, List.getElem?_cons_succ] at r0 r1 r2; have hw2 := Below.trans (a := w) (b := _) (c := w') (B := w.heap.size) (by repeat (first | exact Below.refl _ _ | assumption | refine Below.alloc ?_ (by simp <;> omega) _ | refine Below.setCell ?_ (by simp <;> omega) _)) (hb.mono (by simp <;> omega))))
  refine bodyPost_ret ?_ rfl ⟨rfl, ?_⟩
  · simp [results, Tryz.results90, go_sem, r0, r1, r2, hlt]
  · repeat (first | exact hw2 | refine Below.alloc ?_ (by simp <;> omega) _ | refine Below.setCell ?_ (by simp <;> omega) _)

set_option maxHeartbeats 4000000 in
set_option maxRecDepth 100000 in
theorem rel_same (op k1 i1 : Int) (s1 : ByteArray) (k2 i2 : Int) (s2 : ByteArray)  (ho : op = 7 ∨ op = 8 ∨ op = 9 ∨ op = 10 ∨ op = 11 ∨ op = 12) (h : k1 ≠ 0) (hn : numB k1 = false) (hk : k2 = k1) (w : World) :
    Calls Tryz.prog 90 #[.int .i64 op, .agg #[.int .i64 k1, .int .i64 i1, .string s1], .agg #[.int .i64 k2, .int .i64 i2, .string s2]] w (ResPost 1 (bitOf (holdsB op (ordD k2 i1 s1 k2 i2 s2))) 0 w) := by
  subst hk
  have e1 : (k2 == 0) = false := by simpa using h
  clear h
  go_enter Tryz.func90, Tryz.ntmps90
  go_wp2_with (first
      | (go_at_call 86; refine (isNull_any _ _ _ _).mono ?_; rintro e w' ⟨rfl, rfl⟩)
      | (go_at_call 109; refine (isNumber_any _ _ _ _).mono ?_; rintro e w' ⟨rfl, rfl⟩)
      | (go_at_call 85; refine (truth_any _ _).mono ?_; rintro e w' ⟨rfl, rfl⟩)
      | (go_at_call 114; refine (holds_any _ _ _ (by omega)).mono ?_; rintro e w' ⟨rfl, rfl⟩)
      | (go_at_call 116; refine (compare_any _ _ _ _ _ _ _).mono ?_; rintro e w' ⟨rfl, hb⟩; have hR := Blk.below (b := w.heap.size + 1 + 1) (cs := #[.int .i64 0, .int .i64 0, .string noText]) (t := 27) (by repeat (first | exact Blk.new' (by simp) | refine Blk.alloc ?_ _)) hb; have r0 := hR.cell 0; have r1 := hR.cell 1; have r2 := hR.cell 2; have f0 := hR.frozen 0; have f1 := hR.frozen 1; have f2 := hR.frozen 2; have hlt := hR.lt; simp only [List.getElem?_toArray, List.getElem?_cons_zero, List.getElem?_cons_succ] at r0 r1 r2; have hw2 := Below.trans (a := w) (b := _) (c := w') (B := w.heap.size) (by repeat (first | exact Below.refl _ _ | assumption | refine Below.alloc ?_ (by simp <;> omega) _ | refine Below.setCell ?_ (by simp <;> omega) _)) (hb.mono (by simp <;> omega))))
  refine bodyPost_ret ?_ rfl ⟨rfl, ?_⟩
  · simp [results, Tryz.results90, go_sem, r0, r1, r2, hlt]
  · repeat (first | exact hw2 | refine Below.alloc ?_ (by simp <;> omega) _ | refine Below.setCell ?_ (by simp <;> omega) _)

end Go.Proofs.YtippffjhkinfoaaGreatDoor
