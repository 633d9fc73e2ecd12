/-
  The contracts of datum's ratio (whole), arithmetic and reckon.
-/
import Derived.Test.YtippffjhkinfoaaGreatDoorDiv
import Derived.Test.YtippffjhkinfoaaGreatDoorScale
import Derived.Test.YtippffjhkinfoaaGreatDoorChange
namespace Go.Proofs.YtippffjhkinfoaaGreatDoor
open Go.RowKit

/-- What ratio returns. -/
def ratR (a b c : Int) : Int × Bool :=
  if c.natAbs ≤ a.natAbs * b.natAbs / 18446744073709551616 then (0, false)
  else (ratV (negB a b c) (a.natAbs * b.natAbs / c.natAbs), ratB (negB a b c) (a.natAbs * b.natAbs / c.natAbs))

theorem words (P : Nat) : P / 18446744073709551616 * 18446744073709551616 + P % 18446744073709551616 = P := by
  have := Nat.div_add_mod P 18446744073709551616
  rw [Nat.mul_comm] at this
  exact this

theorem ratio_any (a b c : Int) (w : World) (ha : -9223372036854775808 ≤ a ∧ a ≤ 9223372036854775807) (hb : -9223372036854775808 ≤ b ∧ b ≤ 9223372036854775807) (hc : -9223372036854775808 ≤ c ∧ c ≤ 9223372036854775807) :
    Calls Tryz.prog 124 #[.int .i64 a, .int .i64 b, .int .i64 c] w (RatPost (ratR a b c).1 (ratR a b c).2 w) := by
  unfold ratR
  by_cases h : c.natAbs ≤ a.natAbs * b.natAbs / 18446744073709551616
  · rw [if_pos h]
    exact ratio_over a b c w ha hb hc h
  · rw [if_neg h]
    refine ratio_in a b c (a.natAbs * b.natAbs / c.natAbs) (a.natAbs * b.natAbs % c.natAbs) w ha hb hc (by omega) (fun w => ?_)
    have := div64_any (a.natAbs * b.natAbs / 18446744073709551616) (a.natAbs * b.natAbs % 18446744073709551616) c.natAbs w (by omega) (Nat.mod_lt _ (by decide)) (by omega)
    rw [words] at this
    exact this

/-- What arithmetic returns at a sum, and at a difference. -/
def sumR (a b : Int) : Int × Bool := (wrap64 (a + b), decide (a ≤ wrap64 (a + b)) == decide (0 ≤ b))
def subR (a b : Int) : Int × Bool := (wrap64 (a - b), decide (wrap64 (a - b) ≤ a) == decide (0 ≤ b))

set_option maxHeartbeats 4000000 in
theorem arith_add (a b sc : Int) (w : World) :
    Calls Tryz.prog 112 #[.int .i64 3, .int .i64 a, .int .i64 b, .int .i64 sc] w (RatPost (sumR a b).1 (sumR a b).2 w) := by
  go_enter Tryz.func112, Tryz.ntmps112
  go_wp2
  go_ret2
  exact ⟨rfl, Below.refl _ _⟩

set_option maxHeartbeats 4000000 in
theorem arith_sub (a b sc : Int) (w : World) :
    Calls Tryz.prog 112 #[.int .i64 4, .int .i64 a, .int .i64 b, .int .i64 sc] w (RatPost (subR a b).1 (subR a b).2 w) := by
  go_enter Tryz.func112, Tryz.ntmps112
  go_wp2
  go_ret2
  exact ⟨rfl, Below.refl _ _⟩

set_option maxHeartbeats 4000000 in
theorem arith_mul (a b sc V : Int) (B : Bool) (w : World) (HR : Hid (∀ w : World, Calls Tryz.prog 124 #[.int .i64 a, .int .i64 b, .int .i64 sc] w (RatPost V B w))) :
    Calls Tryz.prog 112 #[.int .i64 5, .int .i64 a, .int .i64 b, .int .i64 sc] w (RatPost V B w) := by
  go_enter Tryz.func112, Tryz.ntmps112
  go_wp2_with (go_at_call 124; (with_reducible refine (HR.out _).mono ?_); rintro e w' ⟨rfl, hb⟩)
  go_ret2
  exact ⟨rfl, hb⟩

set_option maxHeartbeats 4000000 in
theorem arith_div (a b sc V : Int) (B : Bool) (w : World) (HR : Hid (∀ w : World, Calls Tryz.prog 124 #[.int .i64 a, .int .i64 sc, .int .i64 b] w (RatPost V B w))) :
    Calls Tryz.prog 112 #[.int .i64 6, .int .i64 a, .int .i64 b, .int .i64 sc] w (RatPost V B w) := by
  go_enter Tryz.func112, Tryz.ntmps112
  go_wp2_with (go_at_call 124; (with_reducible refine (HR.out _).mono ?_); rintro e w' ⟨rfl, hb⟩)
  go_ret2
  exact ⟨rfl, hb⟩

set_option maxHeartbeats 8000000 in
set_option maxRecDepth 100000 in
theorem reckon_22 (op i1 i2 V : Int) (B : Bool) (w : World) (HA : Hid (∀ w : World, Calls Tryz.prog 112 #[.int .i64 op, .int .i64 i1, .int .i64 i2, .int .i64 1] w (RatPost V B w))) :
    Calls Tryz.prog 88 #[.int .i64 op, .agg #[.int .i64 2, .int .i64 i1, .string noText], .agg #[.int .i64 2, .int .i64 i2, .string noText]] w (ResPost (if B then 2 else 0) (if B then V else 0) (if B then 0 else 4) w) := by
  have n2 : numB 2 = true := rfl
  have n3 : numB 3 = true := rfl
  have HN := Lib.hid (fun w => number_any 2 V B w)
  generalize (if B then (2 : Int) else 0) = K at *
  generalize (if B then V else 0) = I at *
  generalize (if B then (0 : Int) else 4) = E at *
  go_enter Tryz.func88, Tryz.ntmps88
  go_wp2_with (first
    | (go_at_call 86; refine (isNull_any _ _ _ _).mono ?_; rintro e w' ⟨rfl, rfl⟩)
    | (go_at_call 109; refine (isNumber_any _ _ _ _).mono ?_; rintro e w' ⟨rfl, rfl⟩)
    | (go_at_call 112; (with_reducible refine (HA.out _).mono ?_); rintro e w' ⟨rfl, hb⟩; (first | (have hw := Below.trans hw (hb.mono (Below.size hw)); replace x0 := Blk.below x0 hb; replace x1 := Blk.below x1 hb; replace x2 := Blk.below x2 hb) | (have hw := Below.trans (a := w) (B := w.heap.size) (by repeat (first | exact Below.refl _ _ | assumption | refine Below.alloc ?_ (by first | omega | (simp; omega) | simp) _)) (hb.mono (by simp <;> omega)); have x0 := Blk.below (b := w.heap.size) (cs := #[.int .i64 2, .int .i64 i1, .string noText]) (t := 27) (by repeat (first | (refine Blk.at ?_; (simp; done)) | refine Blk.alloc ?_ _)) hb; have x1 := Blk.below (b := w.heap.size + 1) (cs := #[.int .i64 2, .int .i64 i2, .string noText]) (t := 27) (by repeat (first | (refine Blk.at ?_; (simp; done)) | refine Blk.alloc ?_ _)) hb; have x2 := Blk.below (b := w.heap.size + 1 + 1) (cs := #[.int .i64 0, .int .i64 0, .string noText]) (t := 27) (by repeat (first | (refine Blk.at ?_; (simp; done)) | refine Blk.alloc ?_ _)) hb)); have y00 := x0.cell 0; have y01 := x0.cell 1; have y02 := x0.cell 2; have y10 := x1.cell 0; have y11 := x1.cell 1; have y12 := x1.cell 2; have y20 := x2.cell 0; have y21 := x2.cell 1; have y22 := x2.cell 2; simp only [List.getElem?_toArray, List.getElem?_cons_zero, List.getElem?_cons_succ] at y00 y01 y02 y10 y11 y12 y20 y21 y22; have f0 := x2.frozen 0; have f1 := x2.frozen 1; have f2 := x2.frozen 2; clear hb)
    | (go_at_call 111; (with_reducible refine (HN.out _).mono ?_); rintro e w' ⟨rfl, hb⟩; (first | (have hw := Below.trans hw (hb.mono (Below.size hw)); replace x0 := Blk.below x0 hb; replace x1 := Blk.below x1 hb; replace x2 := Blk.below x2 hb) | (have hw := Below.trans (a := w) (B := w.heap.size) (by repeat (first | exact Below.refl _ _ | assumption | refine Below.alloc ?_ (by first | omega | (simp; omega) | simp) _)) (hb.mono (by simp <;> omega)); have x0 := Blk.below (b := w.heap.size) (cs := #[.int .i64 2, .int .i64 i1, .string noText]) (t := 27) (by repeat (first | (refine Blk.at ?_; (simp; done)) | refine Blk.alloc ?_ _)) hb; have x1 := Blk.below (b := w.heap.size + 1) (cs := #[.int .i64 2, .int .i64 i2, .string noText]) (t := 27) (by repeat (first | (refine Blk.at ?_; (simp; done)) | refine Blk.alloc ?_ _)) hb; have x2 := Blk.below (b := w.heap.size + 1 + 1) (cs := #[.int .i64 0, .int .i64 0, .string noText]) (t := 27) (by repeat (first | (refine Blk.at ?_; (simp; done)) | refine Blk.alloc ?_ _)) hb)); have y00 := x0.cell 0; have y01 := x0.cell 1; have y02 := x0.cell 2; have y10 := x1.cell 0; have y11 := x1.cell 1; have y12 := x1.cell 2; have y20 := x2.cell 0; have y21 := x2.cell 1; have y22 := x2.cell 2; simp only [List.getElem?_toArray, List.getElem?_cons_zero, List.getElem?_cons_succ] at y00 y01 y02 y10 y11 y12 y20 y21 y22; have f0 := x2.frozen 0; have f1 := x2.frozen 1; have f2 := x2.frozen 2; clear hb))
  refine bodyPost_ret ?_ rfl ⟨rfl, ?_⟩
  · simp [results, Tryz.results88, go_sem, y20, y21, y22]
  · exact ((hw.setCell (by simp <;> omega) _).setCell (by simp <;> omega) _).setCell (by simp <;> omega) _

set_option maxHeartbeats 8000000 in
set_option maxRecDepth 100000 in
theorem reckon_23 (op i1 i2 x y V : Int) (B : Bool) (w : World) (HS1 : Hid (∀ w : World, Calls Tryz.prog 110 #[.agg #[.int .i64 2, .int .i64 i1, .string noText]] w (RatPost x true w))) (HS2 : Hid (∀ w : World, Calls Tryz.prog 110 #[.agg #[.int .i64 3, .int .i64 i2, .string noText]] w (RatPost y true w))) (HA : Hid (∀ w : World, Calls Tryz.prog 112 #[.int .i64 op, .int .i64 x, .int .i64 y, .int .i64 10000] w (RatPost V B w))) :
    Calls Tryz.prog 88 #[.int .i64 op, .agg #[.int .i64 2, .int .i64 i1, .string noText], .agg #[.int .i64 3, .int .i64 i2, .string noText]] w (ResPost (if B then 3 else 0) (if B then V else 0) (if B then 0 else 4) w) := by
  have n2 : numB 2 = true := rfl
  have n3 : numB 3 = true := rfl
  have HN := Lib.hid (fun w => number_any 3 V B w)
  generalize (if B then (3 : Int) else 0) = K at *
  generalize (if B then V else 0) = I at *
  generalize (if B then (0 : Int) else 4) = E at *
  go_enter Tryz.func88, Tryz.ntmps88
  go_wp2_with (first
    | (go_at_call 86; refine (isNull_any _ _ _ _).mono ?_; rintro e w' ⟨rfl, rfl⟩)
    | (go_at_call 109; refine (isNumber_any _ _ _ _).mono ?_; rintro e w' ⟨rfl, rfl⟩)
    | (go_at_call 110; (first | (with_reducible refine (HS1.out _).mono ?_) | (with_reducible refine (HS2.out _).mono ?_)); rintro e w' ⟨rfl, hb⟩; (first | (have hw := Below.trans hw (hb.mono (Below.size hw)); replace x0 := Blk.below x0 hb; replace x1 := Blk.below x1 hb; replace x2 := Blk.below x2 hb) | (have hw := Below.trans (a := w) (B := w.heap.size) (by repeat (first | exact Below.refl _ _ | assumption | refine Below.alloc ?_ (by first | omega | (simp; omega) | simp) _)) (hb.mono (by simp <;> omega)); have x0 := Blk.below (b := w.heap.size) (cs := #[.int .i64 2, .int .i64 i1, .string noText]) (t := 27) (by repeat (first | (refine Blk.at ?_; (simp; done)) | refine Blk.alloc ?_ _)) hb; have x1 := Blk.below (b := w.heap.size + 1) (cs := #[.int .i64 3, .int .i64 i2, .string noText]) (t := 27) (by repeat (first | (refine Blk.at ?_; (simp; done)) | refine Blk.alloc ?_ _)) hb; have x2 := Blk.below (b := w.heap.size + 1 + 1) (cs := #[.int .i64 0, .int .i64 0, .string noText]) (t := 27) (by repeat (first | (refine Blk.at ?_; (simp; done)) | refine Blk.alloc ?_ _)) hb)); have y00 := x0.cell 0; have y01 := x0.cell 1; have y02 := x0.cell 2; have y10 := x1.cell 0; have y11 := x1.cell 1; have y12 := x1.cell 2; have y20 := x2.cell 0; have y21 := x2.cell 1; have y22 := x2.cell 2; simp only [List.getElem?_toArray, List.getElem?_cons_zero, List.getElem?_cons_succ] at y00 y01 y02 y10 y11 y12 y20 y21 y22; have f0 := x2.frozen 0; have f1 := x2.frozen 1; have f2 := x2.frozen 2; clear hb)
    | (go_at_call 112; (with_reducible refine (HA.out _).mono ?_); rintro e w' ⟨rfl, hb⟩; (first | (have hw := Below.trans hw (hb.mono (Below.size hw)); replace x0 := Blk.below x0 hb; replace x1 := Blk.below x1 hb; replace x2 := Blk.below x2 hb) | (have hw := Below.trans (a := w) (B := w.heap.size) (by repeat (first | exact Below.refl _ _ | assumption | refine Below.alloc ?_ (by first | omega | (simp; omega) | simp) _)) (hb.mono (by simp <;> omega)); have x0 := Blk.below (b := w.heap.size) (cs := #[.int .i64 2, .int .i64 i1, .string noText]) (t := 27) (by repeat (first | (refine Blk.at ?_; (simp; done)) | refine Blk.alloc ?_ _)) hb; have x1 := Blk.below (b := w.heap.size + 1) (cs := #[.int .i64 3, .int .i64 i2, .string noText]) (t := 27) (by repeat (first | (refine Blk.at ?_; (simp; done)) | refine Blk.alloc ?_ _)) hb; have x2 := Blk.below (b := w.heap.size + 1 + 1) (cs := #[.int .i64 0, .int .i64 0, .string noText]) (t := 27) (by repeat (first | (refine Blk.at ?_; (simp; done)) | refine Blk.alloc ?_ _)) hb)); have y00 := x0.cell 0; have y01 := x0.cell 1; have y02 := x0.cell 2; have y10 := x1.cell 0; have y11 := x1.cell 1; have y12 := x1.cell 2; have y20 := x2.cell 0; have y21 := x2.cell 1; have y22 := x2.cell 2; simp only [List.getElem?_toArray, List.getElem?_cons_zero, List.getElem?_cons_succ] at y00 y01 y02 y10 y11 y12 y20 y21 y22; have f0 := x2.frozen 0; have f1 := x2.frozen 1; have f2 := x2.frozen 2; clear hb)
    | (go_at_call 111; (with_reducible refine (HN.out _).mono ?_); rintro e w' ⟨rfl, hb⟩; (first | (have hw := Below.trans hw (hb.mono (Below.size hw)); replace x0 := Blk.below x0 hb; replace x1 := Blk.below x1 hb; replace x2 := Blk.below x2 hb) | (have hw := Below.trans (a := w) (B := w.heap.size) (by repeat (first | exact Below.refl _ _ | assumption | refine Below.alloc ?_ (by first | omega | (simp; omega) | simp) _)) (hb.mono (by simp <;> omega)); have x0 := Blk.below (b := w.heap.size) (cs := #[.int .i64 2, .int .i64 i1, .string noText]) (t := 27) (by repeat (first | (refine Blk.at ?_; (simp; done)) | refine Blk.alloc ?_ _)) hb; have x1 := Blk.below (b := w.heap.size + 1) (cs := #[.int .i64 3, .int .i64 i2, .string noText]) (t := 27) (by repeat (first | (refine Blk.at ?_; (simp; done)) | refine Blk.alloc ?_ _)) hb; have x2 := Blk.below (b := w.heap.size + 1 + 1) (cs := #[.int .i64 0, .int .i64 0, .string noText]) (t := 27) (by repeat (first | (refine Blk.at ?_; (simp; done)) | refine Blk.alloc ?_ _)) hb)); have y00 := x0.cell 0; have y01 := x0.cell 1; have y02 := x0.cell 2; have y10 := x1.cell 0; have y11 := x1.cell 1; have y12 := x1.cell 2; have y20 := x2.cell 0; have y21 := x2.cell 1; have y22 := x2.cell 2; simp only [List.getElem?_toArray, List.getElem?_cons_zero, List.getElem?_cons_succ] at y00 y01 y02 y10 y11 y12 y20 y21 y22; have f0 := x2.frozen 0; have f1 := x2.frozen 1; have f2 := x2.frozen 2; clear hb))
  refine bodyPost_ret ?_ rfl ⟨rfl, ?_⟩
  · simp [results, Tryz.results88, go_sem, y20, y21, y22]
  · exact ((hw.setCell (by simp <;> omega) _).setCell (by simp <;> omega) _).setCell (by simp <;> omega) _

set_option maxHeartbeats 8000000 in
set_option maxRecDepth 100000 in
theorem reckon_23_no (op i1 i2 x y : Int) (BA BB : Bool) (w : World) (HS1 : Hid (∀ w : World, Calls Tryz.prog 110 #[.agg #[.int .i64 2, .int .i64 i1, .string noText]] w (RatPost x BA w))) (HS2 : Hid (∀ w : World, Calls Tryz.prog 110 #[.agg #[.int .i64 3, .int .i64 i2, .string noText]] w (RatPost y BB w))) (hB : (BA && BB) = false) :
    Calls Tryz.prog 88 #[.int .i64 op, .agg #[.int .i64 2, .int .i64 i1, .string noText], .agg #[.int .i64 3, .int .i64 i2, .string noText]] w (ResPost 0 0 4 w) := by
  have n2 : numB 2 = true := rfl
  have n3 : numB 3 = true := rfl
  have hc : BA = false ∨ (BA = true ∧ BB = false) := by cases BA <;> cases BB <;> simp at hB ⊢
  clear hB
  rcases hc with rfl | ⟨rfl, rfl⟩
  all_goals
    go_enter Tryz.func88, Tryz.ntmps88
    go_wp2_with (first
      | (go_at_call 86; refine (isNull_any _ _ _ _).mono ?_; rintro e w' ⟨rfl, rfl⟩)
      | (go_at_call 109; refine (isNumber_any _ _ _ _).mono ?_; rintro e w' ⟨rfl, rfl⟩)
      | (go_at_call 110; (first | (with_reducible refine (HS1.out _).mono ?_) | (with_reducible refine (HS2.out _).mono ?_)); rintro e w' ⟨rfl, hb⟩; (first | (have hw := Below.trans hw (hb.mono (Below.size hw)); replace x0 := Blk.below x0 hb; replace x1 := Blk.below x1 hb; replace x2 := Blk.below x2 hb) | (have hw := Below.trans (a := w) (B := w.heap.size) (by repeat (first | exact Below.refl _ _ | assumption | refine Below.alloc ?_ (by first | omega | (simp; omega) | simp) _)) (hb.mono (by simp <;> omega)); have x0 := Blk.below (b := w.heap.size) (cs := #[.int .i64 2, .int .i64 i1, .string noText]) (t := 27) (by repeat (first | (refine Blk.at ?_; (simp; done)) | refine Blk.alloc ?_ _)) hb; have x1 := Blk.below (b := w.heap.size + 1) (cs := #[.int .i64 3, .int .i64 i2, .string noText]) (t := 27) (by repeat (first | (refine Blk.at ?_; (simp; done)) | refine Blk.alloc ?_ _)) hb; have x2 := Blk.below (b := w.heap.size + 1 + 1) (cs := #[.int .i64 0, .int .i64 0, .string noText]) (t := 27) (by repeat (first | (refine Blk.at ?_; (simp; done)) | refine Blk.alloc ?_ _)) hb)); have y00 := x0.cell 0; have y01 := x0.cell 1; have y02 := x0.cell 2; have y10 := x1.cell 0; have y11 := x1.cell 1; have y12 := x1.cell 2; have y20 := x2.cell 0; have y21 := x2.cell 1; have y22 := x2.cell 2; simp only [List.getElem?_toArray, List.getElem?_cons_zero, List.getElem?_cons_succ] at y00 y01 y02 y10 y11 y12 y20 y21 y22; have f0 := x2.frozen 0; have f1 := x2.frozen 1; have f2 := x2.frozen 2; clear hb))
    refine bodyPost_ret ?_ rfl ⟨rfl, ?_⟩
    · simp [results, Tryz.results88, go_sem, y20, y21, y22]
    · exact ((hw.setCell (by simp <;> omega) _).setCell (by simp <;> omega) _).setCell (by simp <;> omega) _

set_option maxHeartbeats 8000000 in
set_option maxRecDepth 100000 in
theorem reckon_32 (op i1 i2 x y V : Int) (B : Bool) (w : World) (HS1 : Hid (∀ w : World, Calls Tryz.prog 110 #[.agg #[.int .i64 3, .int .i64 i1, .string noText]] w (RatPost x true w))) (HS2 : Hid (∀ w : World, Calls Tryz.prog 110 #[.agg #[.int .i64 2, .int .i64 i2, .string noText]] w (RatPost y true w))) (HA : Hid (∀ w : World, Calls Tryz.prog 112 #[.int .i64 op, .int .i64 x, .int .i64 y, .int .i64 10000] w (RatPost V B w))) :
    Calls Tryz.prog 88 #[.int .i64 op, .agg #[.int .i64 3, .int .i64 i1, .string noText], .agg #[.int .i64 2, .int .i64 i2, .string noText]] w (ResPost (if B then 3 else 0) (if B then V else 0) (if B then 0 else 4) w) := by
  have n2 : numB 2 = true := rfl
  have n3 : numB 3 = true := rfl
  have HN := Lib.hid (fun w => number_any 3 V B w)
  generalize (if B then (3 : Int) else 0) = K at *
  generalize (if B then V else 0) = I at *
  generalize (if B then (0 : Int) else 4) = E at *
  go_enter Tryz.func88, Tryz.ntmps88
  go_wp2_with (first
    | (go_at_call 86; refine (isNull_any _ _ _ _).mono ?_; rintro e w' ⟨rfl, rfl⟩)
    | (go_at_call 109; refine (isNumber_any _ _ _ _).mono ?_; rintro e w' ⟨rfl, rfl⟩)
    | (go_at_call 110; (first | (with_reducible refine (HS1.out _).mono ?_) | (with_reducible refine (HS2.out _).mono ?_)); rintro e w' ⟨rfl, hb⟩; (first | (have hw := Below.trans hw (hb.mono (Below.size hw)); replace x0 := Blk.below x0 hb; replace x1 := Blk.below x1 hb; replace x2 := Blk.below x2 hb) | (have hw := Below.trans (a := w) (B := w.heap.size) (by repeat (first | exact Below.refl _ _ | assumption | refine Below.alloc ?_ (by first | omega | (simp; omega) | simp) _)) (hb.mono (by simp <;> omega)); have x0 := Blk.below (b := w.heap.size) (cs := #[.int .i64 3, .int .i64 i1, .string noText]) (t := 27) (by repeat (first | (refine Blk.at ?_; (simp; done)) | refine Blk.alloc ?_ _)) hb; have x1 := Blk.below (b := w.heap.size + 1) (cs := #[.int .i64 2, .int .i64 i2, .string noText]) (t := 27) (by repeat (first | (refine Blk.at ?_; (simp; done)) | refine Blk.alloc ?_ _)) hb; have x2 := Blk.below (b := w.heap.size + 1 + 1) (cs := #[.int .i64 0, .int .i64 0, .string noText]) (t := 27) (by repeat (first | (refine Blk.at ?_; (simp; done)) | refine Blk.alloc ?_ _)) hb)); have y00 := x0.cell 0; have y01 := x0.cell 1; have y02 := x0.cell 2; have y10 := x1.cell 0; have y11 := x1.cell 1; have y12 := x1.cell 2; have y20 := x2.cell 0; have y21 := x2.cell 1; have y22 := x2.cell 2; simp only [List.getElem?_toArray, List.getElem?_cons_zero, List.getElem?_cons_succ] at y00 y01 y02 y10 y11 y12 y20 y21 y22; have f0 := x2.frozen 0; have f1 := x2.frozen 1; have f2 := x2.frozen 2; clear hb)
    | (go_at_call 112; (with_reducible refine (HA.out _).mono ?_); rintro e w' ⟨rfl, hb⟩; (first | (have hw := Below.trans hw (hb.mono (Below.size hw)); replace x0 := Blk.below x0 hb; replace x1 := Blk.below x1 hb; replace x2 := Blk.below x2 hb) | (have hw := Below.trans (a := w) (B := w.heap.size) (by repeat (first | exact Below.refl _ _ | assumption | refine Below.alloc ?_ (by first | omega | (simp; omega) | simp) _)) (hb.mono (by simp <;> omega)); have x0 := Blk.below (b := w.heap.size) (cs := #[.int .i64 3, .int .i64 i1, .string noText]) (t := 27) (by repeat (first | (refine Blk.at ?_; (simp; done)) | refine Blk.alloc ?_ _)) hb; have x1 := Blk.below (b := w.heap.size + 1) (cs := #[.int .i64 2, .int .i64 i2, .string noText]) (t := 27) (by repeat (first | (refine Blk.at ?_; (simp; done)) | refine Blk.alloc ?_ _)) hb; have x2 := Blk.below (b := w.heap.size + 1 + 1) (cs := #[.int .i64 0, .int .i64 0, .string noText]) (t := 27) (by repeat (first | (refine Blk.at ?_; (simp; done)) | refine Blk.alloc ?_ _)) hb)); have y00 := x0.cell 0; have y01 := x0.cell 1; have y02 := x0.cell 2; have y10 := x1.cell 0; have y11 := x1.cell 1; have y12 := x1.cell 2; have y20 := x2.cell 0; have y21 := x2.cell 1; have y22 := x2.cell 2; simp only [List.getElem?_toArray, List.getElem?_cons_zero, List.getElem?_cons_succ] at y00 y01 y02 y10 y11 y12 y20 y21 y22; have f0 := x2.frozen 0; have f1 := x2.frozen 1; have f2 := x2.frozen 2; clear hb)
    | (go_at_call 111; (with_reducible refine (HN.out _).mono ?_); rintro e w' ⟨rfl, hb⟩; (first | (have hw := Below.trans hw (hb.mono (Below.size hw)); replace x0 := Blk.below x0 hb; replace x1 := Blk.below x1 hb; replace x2 := Blk.below x2 hb) | (have hw := Below.trans (a := w) (B := w.heap.size) (by repeat (first | exact Below.refl _ _ | assumption | refine Below.alloc ?_ (by first | omega | (simp; omega) | simp) _)) (hb.mono (by simp <;> omega)); have x0 := Blk.below (b := w.heap.size) (cs := #[.int .i64 3, .int .i64 i1, .string noText]) (t := 27) (by repeat (first | (refine Blk.at ?_; (simp; done)) | refine Blk.alloc ?_ _)) hb; have x1 := Blk.below (b := w.heap.size + 1) (cs := #[.int .i64 2, .int .i64 i2, .string noText]) (t := 27) (by repeat (first | (refine Blk.at ?_; (simp; done)) | refine Blk.alloc ?_ _)) hb; have x2 := Blk.below (b := w.heap.size + 1 + 1) (cs := #[.int .i64 0, .int .i64 0, .string noText]) (t := 27) (by repeat (first | (refine Blk.at ?_; (simp; done)) | refine Blk.alloc ?_ _)) hb)); have y00 := x0.cell 0; have y01 := x0.cell 1; have y02 := x0.cell 2; have y10 := x1.cell 0; have y11 := x1.cell 1; have y12 := x1.cell 2; have y20 := x2.cell 0; have y21 := x2.cell 1; have y22 := x2.cell 2; simp only [List.getElem?_toArray, List.getElem?_cons_zero, List.getElem?_cons_succ] at y00 y01 y02 y10 y11 y12 y20 y21 y22; have f0 := x2.frozen 0; have f1 := x2.frozen 1; have f2 := x2.frozen 2; clear hb))
  refine bodyPost_ret ?_ rfl ⟨rfl, ?_⟩
  · simp [results, Tryz.results88, go_sem, y20, y21, y22]
  · exact ((hw.setCell (by simp <;> omega) _).setCell (by simp <;> omega) _).setCell (by simp <;> omega) _

set_option maxHeartbeats 8000000 in
set_option maxRecDepth 100000 in
theorem reckon_32_no (op i1 i2 x y : Int) (BA BB : Bool) (w : World) (HS1 : Hid (∀ w : World, Calls Tryz.prog 110 #[.agg #[.int .i64 3, .int .i64 i1, .string noText]] w (RatPost x BA w))) (HS2 : Hid (∀ w : World, Calls Tryz.prog 110 #[.agg #[.int .i64 2, .int .i64 i2, .string noText]] w (RatPost y BB w))) (hB : (BA && BB) = false) :
    Calls Tryz.prog 88 #[.int .i64 op, .agg #[.int .i64 3, .int .i64 i1, .string noText], .agg #[.int .i64 2, .int .i64 i2, .string noText]] w (ResPost 0 0 4 w) := by
  have n2 : numB 2 = true := rfl
  have n3 : numB 3 = true := rfl
  have hc : BA = false ∨ (BA = true ∧ BB = false) := by cases BA <;> cases BB <;> simp at hB ⊢
  clear hB
  rcases hc with rfl | ⟨rfl, rfl⟩
  all_goals
    go_enter Tryz.func88, Tryz.ntmps88
    go_wp2_with (first
      | (go_at_call 86; refine (isNull_any _ _ _ _).mono ?_; rintro e w' ⟨rfl, rfl⟩)
      | (go_at_call 109; refine (isNumber_any _ _ _ _).mono ?_; rintro e w' ⟨rfl, rfl⟩)
      | (go_at_call 110; (first | (with_reducible refine (HS1.out _).mono ?_) | (with_reducible refine (HS2.out _).mono ?_)); rintro e w' ⟨rfl, hb⟩; (first | (have hw := Below.trans hw (hb.mono (Below.size hw)); replace x0 := Blk.below x0 hb; replace x1 := Blk.below x1 hb; replace x2 := Blk.below x2 hb) | (have hw := Below.trans (a := w) (B := w.heap.size) (by repeat (first | exact Below.refl _ _ | assumption | refine Below.alloc ?_ (by first | omega | (simp; omega) | simp) _)) (hb.mono (by simp <;> omega)); have x0 := Blk.below (b := w.heap.size) (cs := #[.int .i64 3, .int .i64 i1, .string noText]) (t := 27) (by repeat (first | (refine Blk.at ?_; (simp; done)) | refine Blk.alloc ?_ _)) hb; have x1 := Blk.below (b := w.heap.size + 1) (cs := #[.int .i64 2, .int .i64 i2, .string noText]) (t := 27) (by repeat (first | (refine Blk.at ?_; (simp; done)) | refine Blk.alloc ?_ _)) hb; have x2 := Blk.below (b := w.heap.size + 1 + 1) (cs := #[.int .i64 0, .int .i64 0, .string noText]) (t := 27) (by repeat (first | (refine Blk.at ?_; (simp; done)) | refine Blk.alloc ?_ _)) hb)); have y00 := x0.cell 0; have y01 := x0.cell 1; have y02 := x0.cell 2; have y10 := x1.cell 0; have y11 := x1.cell 1; have y12 := x1.cell 2; have y20 := x2.cell 0; have y21 := x2.cell 1; have y22 := x2.cell 2; simp only [List.getElem?_toArray, List.getElem?_cons_zero, List.getElem?_cons_succ] at y00 y01 y02 y10 y11 y12 y20 y21 y22; have f0 := x2.frozen 0; have f1 := x2.frozen 1; have f2 := x2.frozen 2; clear hb))
    refine bodyPost_ret ?_ rfl ⟨rfl, ?_⟩
    · simp [results, Tryz.results88, go_sem, y20, y21, y22]
    · exact ((hw.setCell (by simp <;> omega) _).setCell (by simp <;> omega) _).setCell (by simp <;> omega) _

set_option maxHeartbeats 8000000 in
set_option maxRecDepth 100000 in
theorem reckon_33 (op i1 i2 x y V : Int) (B : Bool) (w : World) (HS1 : Hid (∀ w : World, Calls Tryz.prog 110 #[.agg #[.int .i64 3, .int .i64 i1, .string noText]] w (RatPost x true w))) (HS2 : Hid (∀ w : World, Calls Tryz.prog 110 #[.agg #[.int .i64 3, .int .i64 i2, .string noText]] w (RatPost y true w))) (HA : Hid (∀ w : World, Calls Tryz.prog 112 #[.int .i64 op, .int .i64 x, .int .i64 y, .int .i64 10000] w (RatPost V B w))) :
    Calls Tryz.prog 88 #[.int .i64 op, .agg #[.int .i64 3, .int .i64 i1, .string noText], .agg #[.int .i64 3, .int .i64 i2, .string noText]] w (ResPost (if B then 3 else 0) (if B then V else 0) (if B then 0 else 4) w) := by
  have n2 : numB 2 = true := rfl
  have n3 : numB 3 = true := rfl
  have HN := Lib.hid (fun w => number_any 3 V B w)
  generalize (if B then (3 : Int) else 0) = K at *
  generalize (if B then V else 0) = I at *
  generalize (if B then (0 : Int) else 4) = E at *
  go_enter Tryz.func88, Tryz.ntmps88
  go_wp2_with (first
    | (go_at_call 86; refine (isNull_any _ _ _ _).mono ?_; rintro e w' ⟨rfl, rfl⟩)
    | (go_at_call 109; refine (isNumber_any _ _ _ _).mono ?_; rintro e w' ⟨rfl, rfl⟩)
    | (go_at_call 110; (first | (with_reducible refine (HS1.out _).mono ?_) | (with_reducible refine (HS2.out _).mono ?_)); rintro e w' ⟨rfl, hb⟩; (first | (have hw := Below.trans hw (hb.mono (Below.size hw)); replace x0 := Blk.below x0 hb; replace x1 := Blk.below x1 hb; replace x2 := Blk.below x2 hb) | (have hw := Below.trans (a := w) (B := w.heap.size) (by repeat (first | exact Below.refl _ _ | assumption | refine Below.alloc ?_ (by first | omega | (simp; omega) | simp) _)) (hb.mono (by simp <;> omega)); have x0 := Blk.below (b := w.heap.size) (cs := #[.int .i64 3, .int .i64 i1, .string noText]) (t := 27) (by repeat (first | (refine Blk.at ?_; (simp; done)) | refine Blk.alloc ?_ _)) hb; have x1 := Blk.below (b := w.heap.size + 1) (cs := #[.int .i64 3, .int .i64 i2, .string noText]) (t := 27) (by repeat (first | (refine Blk.at ?_; (simp; done)) | refine Blk.alloc ?_ _)) hb; have x2 := Blk.below (b := w.heap.size + 1 + 1) (cs := #[.int .i64 0, .int .i64 0, .string noText]) (t := 27) (by repeat (first | (refine Blk.at ?_; (simp; done)) | refine Blk.alloc ?_ _)) hb)); have y00 := x0.cell 0; have y01 := x0.cell 1; have y02 := x0.cell 2; have y10 := x1.cell 0; have y11 := x1.cell 1; have y12 := x1.cell 2; have y20 := x2.cell 0; have y21 := x2.cell 1; have y22 := x2.cell 2; simp only [List.getElem?_toArray, List.getElem?_cons_zero, List.getElem?_cons_succ] at y00 y01 y02 y10 y11 y12 y20 y21 y22; have f0 := x2.frozen 0; have f1 := x2.frozen 1; have f2 := x2.frozen 2; clear hb)
    | (go_at_call 112; (with_reducible refine (HA.out _).mono ?_); rintro e w' ⟨rfl, hb⟩; (first | (have hw := Below.trans hw (hb.mono (Below.size hw)); replace x0 := Blk.below x0 hb; replace x1 := Blk.below x1 hb; replace x2 := Blk.below x2 hb) | (have hw := Below.trans (a := w) (B := w.heap.size) (by repeat (first | exact Below.refl _ _ | assumption | refine Below.alloc ?_ (by first | omega | (simp; omega) | simp) _)) (hb.mono (by simp <;> omega)); have x0 := Blk.below (b := w.heap.size) (cs := #[.int .i64 3, .int .i64 i1, .string noText]) (t := 27) (by repeat (first | (refine Blk.at ?_; (simp; done)) | refine Blk.alloc ?_ _)) hb; have x1 := Blk.below (b := w.heap.size + 1) (cs := #[.int .i64 3, .int .i64 i2, .string noText]) (t := 27) (by repeat (first | (refine Blk.at ?_; (simp; done)) | refine Blk.alloc ?_ _)) hb; have x2 := Blk.below (b := w.heap.size + 1 + 1) (cs := #[.int .i64 0, .int .i64 0, .string noText]) (t := 27) (by repeat (first | (refine Blk.at ?_; (simp; done)) | refine Blk.alloc ?_ _)) hb)); have y00 := x0.cell 0; have y01 := x0.cell 1; have y02 := x0.cell 2; have y10 := x1.cell 0; have y11 := x1.cell 1; have y12 := x1.cell 2; have y20 := x2.cell 0; have y21 := x2.cell 1; have y22 := x2.cell 2; simp only [List.getElem?_toArray, List.getElem?_cons_zero, List.getElem?_cons_succ] at y00 y01 y02 y10 y11 y12 y20 y21 y22; have f0 := x2.frozen 0; have f1 := x2.frozen 1; have f2 := x2.frozen 2; clear hb)
    | (go_at_call 111; (with_reducible refine (HN.out _).mono ?_); rintro e w' ⟨rfl, hb⟩; (first | (have hw := Below.trans hw (hb.mono (Below.size hw)); replace x0 := Blk.below x0 hb; replace x1 := Blk.below x1 hb; replace x2 := Blk.below x2 hb) | (have hw := Below.trans (a := w) (B := w.heap.size) (by repeat (first | exact Below.refl _ _ | assumption | refine Below.alloc ?_ (by first | omega | (simp; omega) | simp) _)) (hb.mono (by simp <;> omega)); have x0 := Blk.below (b := w.heap.size) (cs := #[.int .i64 3, .int .i64 i1, .string noText]) (t := 27) (by repeat (first | (refine Blk.at ?_; (simp; done)) | refine Blk.alloc ?_ _)) hb; have x1 := Blk.below (b := w.heap.size + 1) (cs := #[.int .i64 3, .int .i64 i2, .string noText]) (t := 27) (by repeat (first | (refine Blk.at ?_; (simp; done)) | refine Blk.alloc ?_ _)) hb; have x2 := Blk.below (b := w.heap.size + 1 + 1) (cs := #[.int .i64 0, .int .i64 0, .string noText]) (t := 27) (by repeat (first | (refine Blk.at ?_; (simp; done)) | refine Blk.alloc ?_ _)) hb)); have y00 := x0.cell 0; have y01 := x0.cell 1; have y02 := x0.cell 2; have y10 := x1.cell 0; have y11 := x1.cell 1; have y12 := x1.cell 2; have y20 := x2.cell 0; have y21 := x2.cell 1; have y22 := x2.cell 2; simp only [List.getElem?_toArray, List.getElem?_cons_zero, List.getElem?_cons_succ] at y00 y01 y02 y10 y11 y12 y20 y21 y22; have f0 := x2.frozen 0; have f1 := x2.frozen 1; have f2 := x2.frozen 2; clear hb))
  refine bodyPost_ret ?_ rfl ⟨rfl, ?_⟩
  · simp [results, Tryz.results88, go_sem, y20, y21, y22]
  · exact ((hw.setCell (by simp <;> omega) _).setCell (by simp <;> omega) _).setCell (by simp <;> omega) _

set_option maxHeartbeats 8000000 in
set_option maxRecDepth 100000 in
theorem reckon_33_no (op i1 i2 x y : Int) (BA BB : Bool) (w : World) (HS1 : Hid (∀ w : World, Calls Tryz.prog 110 #[.agg #[.int .i64 3, .int .i64 i1, .string noText]] w (RatPost x BA w))) (HS2 : Hid (∀ w : World, Calls Tryz.prog 110 #[.agg #[.int .i64 3, .int .i64 i2, .string noText]] w (RatPost y BB w))) (hB : (BA && BB) = false) :
    Calls Tryz.prog 88 #[.int .i64 op, .agg #[.int .i64 3, .int .i64 i1, .string noText], .agg #[.int .i64 3, .int .i64 i2, .string noText]] w (ResPost 0 0 4 w) := by
  have n2 : numB 2 = true := rfl
  have n3 : numB 3 = true := rfl
  have hc : BA = false ∨ (BA = true ∧ BB = false) := by cases BA <;> cases BB <;> simp at hB ⊢
  clear hB
  rcases hc with rfl | ⟨rfl, rfl⟩
  all_goals
    go_enter Tryz.func88, Tryz.ntmps88
    go_wp2_with (first
      | (go_at_call 86; refine (isNull_any _ _ _ _).mono ?_; rintro e w' ⟨rfl, rfl⟩)
      | (go_at_call 109; refine (isNumber_any _ _ _ _).mono ?_; rintro e w' ⟨rfl, rfl⟩)
      | (go_at_call 110; (first | (with_reducible refine (HS1.out _).mono ?_) | (with_reducible refine (HS2.out _).mono ?_)); rintro e w' ⟨rfl, hb⟩; (first | (have hw := Below.trans hw (hb.mono (Below.size hw)); replace x0 := Blk.below x0 hb; replace x1 := Blk.below x1 hb; replace x2 := Blk.below x2 hb) | (have hw := Below.trans (a := w) (B := w.heap.size) (by repeat (first | exact Below.refl _ _ | assumption | refine Below.alloc ?_ (by first | omega | (simp; omega) | simp) _)) (hb.mono (by simp <;> omega)); have x0 := Blk.below (b := w.heap.size) (cs := #[.int .i64 3, .int .i64 i1, .string noText]) (t := 27) (by repeat (first | (refine Blk.at ?_; (simp; done)) | refine Blk.alloc ?_ _)) hb; have x1 := Blk.below (b := w.heap.size + 1) (cs := #[.int .i64 3, .int .i64 i2, .string noText]) (t := 27) (by repeat (first | (refine Blk.at ?_; (simp; done)) | refine Blk.alloc ?_ _)) hb; have x2 := Blk.below (b := w.heap.size + 1 + 1) (cs := #[.int .i64 0, .int .i64 0, .string noText]) (t := 27) (by repeat (first | (refine Blk.at ?_; (simp; done)) | refine Blk.alloc ?_ _)) hb)); have y00 := x0.cell 0; have y01 := x0.cell 1; have y02 := x0.cell 2; have y10 := x1.cell 0; have y11 := x1.cell 1; have y12 := x1.cell 2; have y20 := x2.cell 0; have y21 := x2.cell 1; have y22 := x2.cell 2; simp only [List.getElem?_toArray, List.getElem?_cons_zero, List.getElem?_cons_succ] at y00 y01 y02 y10 y11 y12 y20 y21 y22; have f0 := x2.frozen 0; have f1 := x2.frozen 1; have f2 := x2.frozen 2; clear hb))
    refine bodyPost_ret ?_ rfl ⟨rfl, ?_⟩
    · simp [results, Tryz.results88, go_sem, y20, y21, y22]
    · exact ((hw.setCell (by simp <;> omega) _).setCell (by simp <;> omega) _).setCell (by simp <;> omega) _

end Go.Proofs.YtippffjhkinfoaaGreatDoor
