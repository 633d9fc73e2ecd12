/-
  The walk of the law DatumSums, over what Apply's parts return: one part of its ends.
-/
import Derived.Test.YtkobjlmnbfkgaaaDoorLaw7Base
import Derived.Deep.DeepCutAuto
import Derived.BigFrame
namespace Go.Proofs.YtkobjlmnbfkgaaaDoor
open Go.RowKit

set_option maxHeartbeats 16000000 in
set_option maxRecDepth 100000 in
theorem sums_A (k1 i1 k2 i2 K1 I1 E1 K2 I2 E2 : Int) (w : World) (hk1 : Hid (k1 = 2 ∨ k1 = 3)) (hk2 : Hid (k2 = 2 ∨ k2 = 3))
    (C1 : Hid (∀ w : World, Calls Tryd.prog 40 #[.int .i64 3, .agg #[.int .i64 k1, .int .i64 i1, .string noText], .agg #[.int .i64 k2, .int .i64 i2, .string noText]] w (ResPost K1 I1 E1 w))) (C2 : Hid (∀ w : World, Calls Tryd.prog 40 #[.int .i64 3, .agg #[.int .i64 k2, .int .i64 i2, .string noText], .agg #[.int .i64 k1, .int .i64 i1, .string noText]] w (ResPost K1 I1 E1 w))) (C3 : Hid (∀ w : World, Calls Tryd.prog 40 #[.int .i64 5, .agg #[.int .i64 k1, .int .i64 i1, .string noText], .agg #[.int .i64 k2, .int .i64 i2, .string noText]] w (ResPost K2 I2 E2 w))) (C4 : Hid (∀ w : World, Calls Tryd.prog 40 #[.int .i64 5, .agg #[.int .i64 k2, .int .i64 i2, .string noText], .agg #[.int .i64 k1, .int .i64 i1, .string noText]] w (ResPost K2 I2 E2 w)))
    (hE1 : Hid ((E1 = 0 ∧ (K1 = 2 ∨ K1 = 3) ∧ ∃ K3 I3 : Int, (K3 = 2 ∨ K3 = 3) ∧ (∀ w : World, Calls Tryd.prog 40 #[.int .i64 4, .agg #[.int .i64 K1, .int .i64 I1, .string noText], .agg #[.int .i64 k2, .int .i64 i2, .string noText]] w (ResPost K3 I3 0 w)) ∧ (∀ w : World, Calls Tryd.prog 42 #[.int .i64 7, .agg #[.int .i64 K3, .int .i64 I3, .string noText], .agg #[.int .i64 k1, .int .i64 i1, .string noText]] w (ResPost 1 1 0 w))) ∨ E1 = 4)) (hE2 : Hid (E2 = 0 ∨ E2 = 4))
    (hD : Hid (k1 = 3 ∨ k2 = 3 ∨ (k1 = 2 ∧ k2 = 2 ∧ (∀ w : World, Calls Tryd.prog 40 #[.int .i64 6, .agg #[.int .i64 k1, .int .i64 i1, .string noText], .agg #[.int .i64 k2, .int .i64 i2, .string noText]] w (ResPost 0 0 4 w)) ∧ (i2 = 0 ∨ (i2 = -1 ∧ (i1 == -9223372036854775808) = true))))) :
    Calls Tryd.prog 7 #[.agg #[.int .i64 k1, .int .i64 i1, .string noText], .agg #[.int .i64 k2, .int .i64 i2, .string noText]] w fun e w' => e = .returned (.bool true) ∧ Below w.heap.size w w' := by
  have HR1 : Hid (∀ w : World, Calls Tryd.prog 9 #[.agg #[.int .i64 k1, .int .i64 i1, .string noText]] w (RightPost true w)) := right_post0 k1 i1 (.inr (.inr hk1.out))
  have HR2 : Hid (∀ w : World, Calls Tryd.prog 9 #[.agg #[.int .i64 k2, .int .i64 i2, .string noText]] w (RightPost true w)) := right_post0 k2 i2 (.inr (.inr hk2.out))
  go_enter Tryd.func7, Tryd.ntmps7
  go_wp2_with (go_at_call 21; (first | (with_reducible refine (num_yes k1 i1 _ hk1.out).mono ?_) | (with_reducible refine (num_yes k2 i2 _ hk2.out).mono ?_)); rintro e w' ⟨rfl, rfl⟩)
  have bA : Blk _ w.heap.size #[.int .i64 k1, .int .i64 i1, .string noText] 23 := Blk.new w #[.int .i64 k1, .int .i64 i1, .string noText] 23
  have bB : Blk _ (w.heap.size + 1) #[.int .i64 k2, .int .i64 i2, .string noText] 23 := Blk.at (W := w.alloc (.cells #[.int .i64 k1, .int .i64 i1, .string noText] 23)) (by simp)
  replace bA := bA.alloc (.cells #[.int .i64 k2, .int .i64 i2, .string noText] 23)
  refine (apply_3 k1 i1 noText k2 i2 noText K1 I1 E1 _ _ HR1 HR2 C1 (Blk.cell (cs := #[.int .i64 k1, .int .i64 i1, .string noText, .int .i64 k2, .int .i64 i2, .string noText]) (t := 23) (Blk.at (by simp)) 0) (Blk.cell (cs := #[.int .i64 k1, .int .i64 i1, .string noText, .int .i64 k2, .int .i64 i2, .string noText]) (t := 23) (Blk.at (by simp)) 1) (Blk.cell (cs := #[.int .i64 k1, .int .i64 i1, .string noText, .int .i64 k2, .int .i64 i2, .string noText]) (t := 23) (Blk.at (by simp)) 2) (Blk.cell (cs := #[.int .i64 k1, .int .i64 i1, .string noText, .int .i64 k2, .int .i64 i2, .string noText]) (t := 23) (Blk.at (by simp)) 3) (Blk.cell (cs := #[.int .i64 k1, .int .i64 i1, .string noText, .int .i64 k2, .int .i64 i2, .string noText]) (t := 23) (Blk.at (by simp)) 4) (Blk.cell (cs := #[.int .i64 k1, .int .i64 i1, .string noText, .int .i64 k2, .int .i64 i2, .string noText]) (t := 23) (Blk.at (by simp)) 5)).mono ?_
  rintro e w1 ⟨rfl, hb1⟩
  have hw1 : Below w.heap.size w w1 := Below.trans (by repeat (first | exact Below.refl _ _ | exact Below.refl _ _ | refine Below.alloc ?_ (by first | omega | (simp; omega) | simp) _)) (hb1.mono (by simp <;> omega))
  replace bA := Blk.below (b := w.heap.size) (cs := #[.int .i64 k1, .int .i64 i1, .string noText]) (t := 23) (by repeat (first | exact bA | (refine Blk.at ?_; (simp; done)) | refine Blk.alloc ?_ _)) hb1
  replace bB := Blk.below (b := w.heap.size + 1) (cs := #[.int .i64 k2, .int .i64 i2, .string noText]) (t := 23) (by repeat (first | exact bB | (refine Blk.at ?_; (simp; done)) | refine Blk.alloc ?_ _)) hb1
  have bAc0 := Blk.cell bA 0
  have bAc1 := Blk.cell bA 1
  have bAc2 := Blk.cell bA 2
  simp only [List.getElem?_toArray, List.getElem?_cons_zero, List.getElem?_cons_succ] at bAc0 bAc1 bAc2
  have bAl := Blk.lt bA
  have bAm := Nat.lt_succ_of_lt bAl
  have bAk := Nat.lt_succ_of_lt bAm
  have bBc0 := Blk.cell bB 0
  have bBc1 := Blk.cell bB 1
  have bBc2 := Blk.cell bB 2
  simp only [List.getElem?_toArray, List.getElem?_cons_zero, List.getElem?_cons_succ] at bBc0 bBc1 bBc2
  have bBl := Blk.lt bB
  have bBm := Nat.lt_succ_of_lt bBl
  have bBk := Nat.lt_succ_of_lt bBm
  have hz1 : w.heap.size ≤ w1.heap.size := hw1.size
  go_wp2_with fail
  have bX : Blk (w1.alloc (.cells #[.int .i64 K1, .int .i64 I1, .string noText] 23)) w1.heap.size #[.int .i64 K1, .int .i64 I1, .string noText] 23 := Blk.new w1 #[.int .i64 K1, .int .i64 I1, .string noText] 23
  clear bAc0 bAc1 bAc2 bAl bAm bAk
  clear bBc0 bBc1 bBc2 bBl bBm bBk
  refine (apply_3 k2 i2 noText k1 i1 noText K1 I1 E1 _ _ HR2 HR1 C2 (Blk.cell (cs := #[.int .i64 k2, .int .i64 i2, .string noText, .int .i64 k1, .int .i64 i1, .string noText]) (t := 23) (Blk.at (by simp)) 0) (Blk.cell (cs := #[.int .i64 k2, .int .i64 i2, .string noText, .int .i64 k1, .int .i64 i1, .string noText]) (t := 23) (Blk.at (by simp)) 1) (Blk.cell (cs := #[.int .i64 k2, .int .i64 i2, .string noText, .int .i64 k1, .int .i64 i1, .string noText]) (t := 23) (Blk.at (by simp)) 2) (Blk.cell (cs := #[.int .i64 k2, .int .i64 i2, .string noText, .int .i64 k1, .int .i64 i1, .string noText]) (t := 23) (Blk.at (by simp)) 3) (Blk.cell (cs := #[.int .i64 k2, .int .i64 i2, .string noText, .int .i64 k1, .int .i64 i1, .string noText]) (t := 23) (Blk.at (by simp)) 4) (Blk.cell (cs := #[.int .i64 k2, .int .i64 i2, .string noText, .int .i64 k1, .int .i64 i1, .string noText]) (t := 23) (Blk.at (by simp)) 5)).mono ?_
  rintro e w2 ⟨rfl, hb2⟩
  have hw2 : Below w.heap.size w w2 := Below.trans (by repeat (first | exact Below.refl _ _ | exact hw1 | refine Below.alloc ?_ (by first | omega | (simp; omega) | simp) _)) (hb2.mono (by simp <;> omega))
  replace bA := Blk.below (b := w.heap.size) (cs := #[.int .i64 k1, .int .i64 i1, .string noText]) (t := 23) (by repeat (first | exact bA | (refine Blk.at ?_; (simp; done)) | refine Blk.alloc ?_ _)) hb2
  replace bB := Blk.below (b := w.heap.size + 1) (cs := #[.int .i64 k2, .int .i64 i2, .string noText]) (t := 23) (by repeat (first | exact bB | (refine Blk.at ?_; (simp; done)) | refine Blk.alloc ?_ _)) hb2
  replace bX := Blk.below (b := w1.heap.size) (cs := #[.int .i64 K1, .int .i64 I1, .string noText]) (t := 23) (by repeat (first | exact bX | (refine Blk.at ?_; (simp; done)) | refine Blk.alloc ?_ _)) hb2
  have bAc0 := Blk.cell bA 0
  have bAc1 := Blk.cell bA 1
  have bAc2 := Blk.cell bA 2
  simp only [List.getElem?_toArray, List.getElem?_cons_zero, List.getElem?_cons_succ] at bAc0 bAc1 bAc2
  have bAl := Blk.lt bA
  have bAm := Nat.lt_succ_of_lt bAl
  have bAk := Nat.lt_succ_of_lt bAm
  have bBc0 := Blk.cell bB 0
  have bBc1 := Blk.cell bB 1
  have bBc2 := Blk.cell bB 2
  simp only [List.getElem?_toArray, List.getElem?_cons_zero, List.getElem?_cons_succ] at bBc0 bBc1 bBc2
  have bBl := Blk.lt bB
  have bBm := Nat.lt_succ_of_lt bBl
  have bBk := Nat.lt_succ_of_lt bBm
  have bXc0 := Blk.cell bX 0
  have bXc1 := Blk.cell bX 1
  have bXc2 := Blk.cell bX 2
  simp only [List.getElem?_toArray, List.getElem?_cons_zero, List.getElem?_cons_succ] at bXc0 bXc1 bXc2
  have bXl := Blk.lt bX
  have bXm := Nat.lt_succ_of_lt bXl
  have bXk := Nat.lt_succ_of_lt bXm
  have hz2 : w.heap.size ≤ w2.heap.size := hw2.size
  go_wp2_with fail
  have bY : Blk (w2.alloc (.cells #[.int .i64 K1, .int .i64 I1, .string noText] 23)) w2.heap.size #[.int .i64 K1, .int .i64 I1, .string noText] 23 := Blk.new w2 #[.int .i64 K1, .int .i64 I1, .string noText] 23
  clear bAc0 bAc1 bAc2 bAl bAm bAk
  clear bBc0 bBc1 bBc2 bBl bBm bBk
  clear bXc0 bXc1 bXc2 bXl bXm bXk
  refine (apply_5 k1 i1 noText k2 i2 noText K2 I2 E2 _ _ HR1 HR2 C3 (Blk.cell (cs := #[.int .i64 k1, .int .i64 i1, .string noText, .int .i64 k2, .int .i64 i2, .string noText]) (t := 23) (Blk.at (by simp)) 0) (Blk.cell (cs := #[.int .i64 k1, .int .i64 i1, .string noText, .int .i64 k2, .int .i64 i2, .string noText]) (t := 23) (Blk.at (by simp)) 1) (Blk.cell (cs := #[.int .i64 k1, .int .i64 i1, .string noText, .int .i64 k2, .int .i64 i2, .string noText]) (t := 23) (Blk.at (by simp)) 2) (Blk.cell (cs := #[.int .i64 k1, .int .i64 i1, .string noText, .int .i64 k2, .int .i64 i2, .string noText]) (t := 23) (Blk.at (by simp)) 3) (Blk.cell (cs := #[.int .i64 k1, .int .i64 i1, .string noText, .int .i64 k2, .int .i64 i2, .string noText]) (t := 23) (Blk.at (by simp)) 4) (Blk.cell (cs := #[.int .i64 k1, .int .i64 i1, .string noText, .int .i64 k2, .int .i64 i2, .string noText]) (t := 23) (Blk.at (by simp)) 5)).mono ?_
  rintro e w3 ⟨rfl, hb3⟩
  have hw3 : Below w.heap.size w w3 := Below.trans (by repeat (first | exact Below.refl _ _ | exact hw2 | refine Below.alloc ?_ (by first | omega | (simp; omega) | simp) _)) (hb3.mono (by simp <;> omega))
  replace bA := Blk.below (b := w.heap.size) (cs := #[.int .i64 k1, .int .i64 i1, .string noText]) (t := 23) (by repeat (first | exact bA | (refine Blk.at ?_; (simp; done)) | refine Blk.alloc ?_ _)) hb3
  replace bB := Blk.below (b := w.heap.size + 1) (cs := #[.int .i64 k2, .int .i64 i2, .string noText]) (t := 23) (by repeat (first | exact bB | (refine Blk.at ?_; (simp; done)) | refine Blk.alloc ?_ _)) hb3
  replace bX := Blk.below (b := w1.heap.size) (cs := #[.int .i64 K1, .int .i64 I1, .string noText]) (t := 23) (by repeat (first | exact bX | (refine Blk.at ?_; (simp; done)) | refine Blk.alloc ?_ _)) hb3
  replace bY := Blk.below (b := w2.heap.size) (cs := #[.int .i64 K1, .int .i64 I1, .string noText]) (t := 23) (by repeat (first | exact bY | (refine Blk.at ?_; (simp; done)) | refine Blk.alloc ?_ _)) hb3
  have bAc0 := Blk.cell bA 0
  have bAc1 := Blk.cell bA 1
  have bAc2 := Blk.cell bA 2
  simp only [List.getElem?_toArray, List.getElem?_cons_zero, List.getElem?_cons_succ] at bAc0 bAc1 bAc2
  have bAl := Blk.lt bA
  have bAm := Nat.lt_succ_of_lt bAl
  have bAk := Nat.lt_succ_of_lt bAm
  have bBc0 := Blk.cell bB 0
  have bBc1 := Blk.cell bB 1
  have bBc2 := Blk.cell bB 2
  simp only [List.getElem?_toArray, List.getElem?_cons_zero, List.getElem?_cons_succ] at bBc0 bBc1 bBc2
  have bBl := Blk.lt bB
  have bBm := Nat.lt_succ_of_lt bBl
  have bBk := Nat.lt_succ_of_lt bBm
  have bXc0 := Blk.cell bX 0
  have bXc1 := Blk.cell bX 1
  have bXc2 := Blk.cell bX 2
  simp only [List.getElem?_toArray, List.getElem?_cons_zero, List.getElem?_cons_succ] at bXc0 bXc1 bXc2
  have bXl := Blk.lt bX
  have bXm := Nat.lt_succ_of_lt bXl
  have bXk := Nat.lt_succ_of_lt bXm
  have bYc0 := Blk.cell bY 0
  have bYc1 := Blk.cell bY 1
  have bYc2 := Blk.cell bY 2
  simp only [List.getElem?_toArray, List.getElem?_cons_zero, List.getElem?_cons_succ] at bYc0 bYc1 bYc2
  have bYl := Blk.lt bY
  have bYm := Nat.lt_succ_of_lt bYl
  have bYk := Nat.lt_succ_of_lt bYm
  have hz3 : w.heap.size ≤ w3.heap.size := hw3.size
  go_wp2_with fail
  have bP : Blk (w3.alloc (.cells #[.int .i64 K2, .int .i64 I2, .string noText] 23)) w3.heap.size #[.int .i64 K2, .int .i64 I2, .string noText] 23 := Blk.new w3 #[.int .i64 K2, .int .i64 I2, .string noText] 23
  clear bAc0 bAc1 bAc2 bAl bAm bAk
  clear bBc0 bBc1 bBc2 bBl bBm bBk
  clear bXc0 bXc1 bXc2 bXl bXm bXk
  clear bYc0 bYc1 bYc2 bYl bYm bYk
  refine (apply_5 k2 i2 noText k1 i1 noText K2 I2 E2 _ _ HR2 HR1 C4 (Blk.cell (cs := #[.int .i64 k2, .int .i64 i2, .string noText, .int .i64 k1, .int .i64 i1, .string noText]) (t := 23) (Blk.at (by simp)) 0) (Blk.cell (cs := #[.int .i64 k2, .int .i64 i2, .string noText, .int .i64 k1, .int .i64 i1, .string noText]) (t := 23) (Blk.at (by simp)) 1) (Blk.cell (cs := #[.int .i64 k2, .int .i64 i2, .string noText, .int .i64 k1, .int .i64 i1, .string noText]) (t := 23) (Blk.at (by simp)) 2) (Blk.cell (cs := #[.int .i64 k2, .int .i64 i2, .string noText, .int .i64 k1, .int .i64 i1, .string noText]) (t := 23) (Blk.at (by simp)) 3) (Blk.cell (cs := #[.int .i64 k2, .int .i64 i2, .string noText, .int .i64 k1, .int .i64 i1, .string noText]) (t := 23) (Blk.at (by simp)) 4) (Blk.cell (cs := #[.int .i64 k2, .int .i64 i2, .string noText, .int .i64 k1, .int .i64 i1, .string noText]) (t := 23) (Blk.at (by simp)) 5)).mono ?_
  rintro e w4 ⟨rfl, hb4⟩
  have hw4 : Below w.heap.size w w4 := Below.trans (by repeat (first | exact Below.refl _ _ | exact hw3 | refine Below.alloc ?_ (by first | omega | (simp; omega) | simp) _)) (hb4.mono (by simp <;> omega))
  replace bA := Blk.below (b := w.heap.size) (cs := #[.int .i64 k1, .int .i64 i1, .string noText]) (t := 23) (by repeat (first | exact bA | (refine Blk.at ?_; (simp; done)) | refine Blk.alloc ?_ _)) hb4
  replace bB := Blk.below (b := w.heap.size + 1) (cs := #[.int .i64 k2, .int .i64 i2, .string noText]) (t := 23) (by repeat (first | exact bB | (refine Blk.at ?_; (simp; done)) | refine Blk.alloc ?_ _)) hb4
  replace bX := Blk.below (b := w1.heap.size) (cs := #[.int .i64 K1, .int .i64 I1, .string noText]) (t := 23) (by repeat (first | exact bX | (refine Blk.at ?_; (simp; done)) | refine Blk.alloc ?_ _)) hb4
  replace bY := Blk.below (b := w2.heap.size) (cs := #[.int .i64 K1, .int .i64 I1, .string noText]) (t := 23) (by repeat (first | exact bY | (refine Blk.at ?_; (simp; done)) | refine Blk.alloc ?_ _)) hb4
  replace bP := Blk.below (b := w3.heap.size) (cs := #[.int .i64 K2, .int .i64 I2, .string noText]) (t := 23) (by repeat (first | exact bP | (refine Blk.at ?_; (simp; done)) | refine Blk.alloc ?_ _)) hb4
  have bAc0 := Blk.cell bA 0
  have bAc1 := Blk.cell bA 1
  have bAc2 := Blk.cell bA 2
  simp only [List.getElem?_toArray, List.getElem?_cons_zero, List.getElem?_cons_succ] at bAc0 bAc1 bAc2
  have bAl := Blk.lt bA
  have bAm := Nat.lt_succ_of_lt bAl
  have bAk := Nat.lt_succ_of_lt bAm
  have bBc0 := Blk.cell bB 0
  have bBc1 := Blk.cell bB 1
  have bBc2 := Blk.cell bB 2
  simp only [List.getElem?_toArray, List.getElem?_cons_zero, List.getElem?_cons_succ] at bBc0 bBc1 bBc2
  have bBl := Blk.lt bB
  have bBm := Nat.lt_succ_of_lt bBl
  have bBk := Nat.lt_succ_of_lt bBm
  have bXc0 := Blk.cell bX 0
  have bXc1 := Blk.cell bX 1
  have bXc2 := Blk.cell bX 2
  simp only [List.getElem?_toArray, List.getElem?_cons_zero, List.getElem?_cons_succ] at bXc0 bXc1 bXc2
  have bXl := Blk.lt bX
  have bXm := Nat.lt_succ_of_lt bXl
  have bXk := Nat.lt_succ_of_lt bXm
  have bYc0 := Blk.cell bY 0
  have bYc1 := Blk.cell bY 1
  have bYc2 := Blk.cell bY 2
  simp only [List.getElem?_toArray, List.getElem?_cons_zero, List.getElem?_cons_succ] at bYc0 bYc1 bYc2
  have bYl := Blk.lt bY
  have bYm := Nat.lt_succ_of_lt bYl
  have bYk := Nat.lt_succ_of_lt bYm
  have bPc0 := Blk.cell bP 0
  have bPc1 := Blk.cell bP 1
  have bPc2 := Blk.cell bP 2
  simp only [List.getElem?_toArray, List.getElem?_cons_zero, List.getElem?_cons_succ] at bPc0 bPc1 bPc2
  have bPl := Blk.lt bP
  have bPm := Nat.lt_succ_of_lt bPl
  have bPk := Nat.lt_succ_of_lt bPm
  have hz4 : w.heap.size ≤ w4.heap.size := hw4.size
  go_upto_region 8 with fail
  go_cut [92] (fun s wx => s = .bool false ∧ Below w.heap.size w wx ∧ Blk wx w.heap.size #[.int .i64 k1, .int .i64 i1, .string noText] 23 ∧ Blk wx (w.heap.size + 1) #[.int .i64 k2, .int .i64 i2, .string noText] 23 ∧ Blk wx w1.heap.size #[.int .i64 K1, .int .i64 I1, .string noText] 23)
  case first =>
    rcases hE1.out with ⟨rfl, _⟩ | rfl <;> rcases hE2.out with rfl | rfl
    all_goals (go_wp2_with fail; go_meet; exact ⟨rfl, (by repeat (first | exact hw4 | refine Below.alloc ?_ (by first | omega | (simp; omega) | simp) _)), (by repeat (first | exact bA | (refine Blk.at ?_; (simp; done)) | exact Blk.new _ _ _ | refine Blk.alloc ?_ _)), (by repeat (first | exact bB | (refine Blk.at ?_; (simp; done)) | exact Blk.new _ _ _ | refine Blk.alloc ?_ _)), (by repeat (first | exact bX | (refine Blk.at ?_; (simp; done)) | exact Blk.new _ _ _ | refine Blk.alloc ?_ _))⟩)
  case rest =>
    obtain ⟨rfl, hw5, bA, bB, bX⟩ := hcut
    have hz5 := hw5.size
    go_upto_if 94 with fail
    go_cut [] (fun wx => Below w.heap.size w wx ∧ Blk wx w.heap.size #[.int .i64 k1, .int .i64 i1, .string noText] 23 ∧ Blk wx (w.heap.size + 1) #[.int .i64 k2, .int .i64 i2, .string noText] 23)
    case first =>
      rcases hE1.out with ⟨rfl, hK1, K3, I3, hK3, hS, hQ⟩ | rfl
      · have HRX : Hid (∀ w : World, Calls Tryd.prog 9 #[.agg #[.int .i64 K1, .int .i64 I1, .string noText]] w (RightPost true w)) := right_post0 K1 I1 (.inr (.inr hK1))
        have HRB : Hid (∀ w : World, Calls Tryd.prog 9 #[.agg #[.int .i64 K3, .int .i64 I3, .string noText]] w (RightPost true w)) := right_post0 K3 I3 (.inr (.inr hK3))
        have HS := Lib.hid hS
        have HQ := Lib.hid hQ
        clear hS hQ hK1 hK3
        have bAc0 := Blk.cell bA 0
        have bAc1 := Blk.cell bA 1
        have bAc2 := Blk.cell bA 2
        simp only [List.getElem?_toArray, List.getElem?_cons_zero, List.getElem?_cons_succ] at bAc0 bAc1 bAc2
        have bAl := Blk.lt bA
        have bAm := Nat.lt_succ_of_lt bAl
        have bAk := Nat.lt_succ_of_lt bAm
        have bBc0 := Blk.cell bB 0
        have bBc1 := Blk.cell bB 1
        have bBc2 := Blk.cell bB 2
        simp only [List.getElem?_toArray, List.getElem?_cons_zero, List.getElem?_cons_succ] at bBc0 bBc1 bBc2
        have bBl := Blk.lt bB
        have bBm := Nat.lt_succ_of_lt bBl
        have bBk := Nat.lt_succ_of_lt bBm
        have bXc0 := Blk.cell bX 0
        have bXc1 := Blk.cell bX 1
        have bXc2 := Blk.cell bX 2
        simp only [List.getElem?_toArray, List.getElem?_cons_zero, List.getElem?_cons_succ] at bXc0 bXc1 bXc2
        have bXl := Blk.lt bX
        have bXm := Nat.lt_succ_of_lt bXl
        have bXk := Nat.lt_succ_of_lt bXm
        go_wp2_with fail
        clear bAc0 bAc1 bAc2 bAl bAm bAk
        clear bBc0 bBc1 bBc2 bBl bBm bBk
        clear bXc0 bXc1 bXc2 bXl bXm bXk
        refine (apply_4 K1 I1 noText k2 i2 noText K3 I3 0 _ _ HRX HR2 HS (Blk.cell (cs := #[.int .i64 K1, .int .i64 I1, .string noText, .int .i64 k2, .int .i64 i2, .string noText]) (t := 23) (Blk.at (by simp)) 0) (Blk.cell (cs := #[.int .i64 K1, .int .i64 I1, .string noText, .int .i64 k2, .int .i64 i2, .string noText]) (t := 23) (Blk.at (by simp)) 1) (Blk.cell (cs := #[.int .i64 K1, .int .i64 I1, .string noText, .int .i64 k2, .int .i64 i2, .string noText]) (t := 23) (Blk.at (by simp)) 2) (Blk.cell (cs := #[.int .i64 K1, .int .i64 I1, .string noText, .int .i64 k2, .int .i64 i2, .string noText]) (t := 23) (Blk.at (by simp)) 3) (Blk.cell (cs := #[.int .i64 K1, .int .i64 I1, .string noText, .int .i64 k2, .int .i64 i2, .string noText]) (t := 23) (Blk.at (by simp)) 4) (Blk.cell (cs := #[.int .i64 K1, .int .i64 I1, .string noText, .int .i64 k2, .int .i64 i2, .string noText]) (t := 23) (Blk.at (by simp)) 5)).mono ?_
        rintro e w6 ⟨rfl, hb6⟩
        have hw6 : Below w.heap.size w w6 := Below.trans (by repeat (first | exact Below.refl _ _ | exact hw5 | refine Below.alloc ?_ (by first | omega | (simp; omega) | simp) _)) (hb6.mono (by simp <;> omega))
        replace bA := Blk.below (b := w.heap.size) (cs := #[.int .i64 k1, .int .i64 i1, .string noText]) (t := 23) (by repeat (first | exact bA | (refine Blk.at ?_; (simp; done)) | refine Blk.alloc ?_ _)) hb6
        replace bB := Blk.below (b := w.heap.size + 1) (cs := #[.int .i64 k2, .int .i64 i2, .string noText]) (t := 23) (by repeat (first | exact bB | (refine Blk.at ?_; (simp; done)) | refine Blk.alloc ?_ _)) hb6
        replace bX := Blk.below (b := w1.heap.size) (cs := #[.int .i64 K1, .int .i64 I1, .string noText]) (t := 23) (by repeat (first | exact bX | (refine Blk.at ?_; (simp; done)) | refine Blk.alloc ?_ _)) hb6
        have bAc0 := Blk.cell bA 0
        have bAc1 := Blk.cell bA 1
        have bAc2 := Blk.cell bA 2
        simp only [List.getElem?_toArray, List.getElem?_cons_zero, List.getElem?_cons_succ] at bAc0 bAc1 bAc2
        have bAl := Blk.lt bA
        have bAm := Nat.lt_succ_of_lt bAl
        have bAk := Nat.lt_succ_of_lt bAm
        have bBc0 := Blk.cell bB 0
        have bBc1 := Blk.cell bB 1
        have bBc2 := Blk.cell bB 2
        simp only [List.getElem?_toArray, List.getElem?_cons_zero, List.getElem?_cons_succ] at bBc0 bBc1 bBc2
        have bBl := Blk.lt bB
        have bBm := Nat.lt_succ_of_lt bBl
        have bBk := Nat.lt_succ_of_lt bBm
        have bXc0 := Blk.cell bX 0
        have bXc1 := Blk.cell bX 1
        have bXc2 := Blk.cell bX 2
        simp only [List.getElem?_toArray, List.getElem?_cons_zero, List.getElem?_cons_succ] at bXc0 bXc1 bXc2
        have bXl := Blk.lt bX
        have bXm := Nat.lt_succ_of_lt bXl
        have bXk := Nat.lt_succ_of_lt bXm
        have hz6 : w.heap.size ≤ w6.heap.size := hw6.size
        go_wp2_with fail
        have bK : Blk (w6.alloc (.cells #[.int .i64 K3, .int .i64 I3, .string noText] 23)) w6.heap.size #[.int .i64 K3, .int .i64 I3, .string noText] 23 := Blk.new w6 #[.int .i64 K3, .int .i64 I3, .string noText] 23
        clear bAc0 bAc1 bAc2 bAl bAm bAk
        clear bBc0 bBc1 bBc2 bBl bBm bBk
        clear bXc0 bXc1 bXc2 bXl bXm bXk
        refine (apply_7 K3 I3 noText k1 i1 noText 1 1 0 _ _ HRB HR1 HQ (Blk.cell (cs := #[.int .i64 K3, .int .i64 I3, .string noText, .int .i64 k1, .int .i64 i1, .string noText]) (t := 23) (Blk.at (by simp)) 0) (Blk.cell (cs := #[.int .i64 K3, .int .i64 I3, .string noText, .int .i64 k1, .int .i64 i1, .string noText]) (t := 23) (Blk.at (by simp)) 1) (Blk.cell (cs := #[.int .i64 K3, .int .i64 I3, .string noText, .int .i64 k1, .int .i64 i1, .string noText]) (t := 23) (Blk.at (by simp)) 2) (Blk.cell (cs := #[.int .i64 K3, .int .i64 I3, .string noText, .int .i64 k1, .int .i64 i1, .string noText]) (t := 23) (Blk.at (by simp)) 3) (Blk.cell (cs := #[.int .i64 K3, .int .i64 I3, .string noText, .int .i64 k1, .int .i64 i1, .string noText]) (t := 23) (Blk.at (by simp)) 4) (Blk.cell (cs := #[.int .i64 K3, .int .i64 I3, .string noText, .int .i64 k1, .int .i64 i1, .string noText]) (t := 23) (Blk.at (by simp)) 5)).mono ?_
        rintro e w7 ⟨rfl, hb7⟩
        have hw7 : Below w.heap.size w w7 := Below.trans (by repeat (first | exact Below.refl _ _ | exact hw6 | refine Below.alloc ?_ (by first | omega | (simp; omega) | simp) _)) (hb7.mono (by simp <;> omega))
        replace bA := Blk.below (b := w.heap.size) (cs := #[.int .i64 k1, .int .i64 i1, .string noText]) (t := 23) (by repeat (first | exact bA | (refine Blk.at ?_; (simp; done)) | refine Blk.alloc ?_ _)) hb7
        replace bB := Blk.below (b := w.heap.size + 1) (cs := #[.int .i64 k2, .int .i64 i2, .string noText]) (t := 23) (by repeat (first | exact bB | (refine Blk.at ?_; (simp; done)) | refine Blk.alloc ?_ _)) hb7
        replace bX := Blk.below (b := w1.heap.size) (cs := #[.int .i64 K1, .int .i64 I1, .string noText]) (t := 23) (by repeat (first | exact bX | (refine Blk.at ?_; (simp; done)) | refine Blk.alloc ?_ _)) hb7
        replace bK := Blk.below (b := w6.heap.size) (cs := #[.int .i64 K3, .int .i64 I3, .string noText]) (t := 23) (by repeat (first | exact bK | (refine Blk.at ?_; (simp; done)) | refine Blk.alloc ?_ _)) hb7
        have bAc0 := Blk.cell bA 0
        have bAc1 := Blk.cell bA 1
        have bAc2 := Blk.cell bA 2
        simp only [List.getElem?_toArray, List.getElem?_cons_zero, List.getElem?_cons_succ] at bAc0 bAc1 bAc2
        have bAl := Blk.lt bA
        have bAm := Nat.lt_succ_of_lt bAl
        have bAk := Nat.lt_succ_of_lt bAm
        have bBc0 := Blk.cell bB 0
        have bBc1 := Blk.cell bB 1
        have bBc2 := Blk.cell bB 2
        simp only [List.getElem?_toArray, List.getElem?_cons_zero, List.getElem?_cons_succ] at bBc0 bBc1 bBc2
        have bBl := Blk.lt bB
        have bBm := Nat.lt_succ_of_lt bBl
        have bBk := Nat.lt_succ_of_lt bBm
        have bXc0 := Blk.cell bX 0
        have bXc1 := Blk.cell bX 1
        have bXc2 := Blk.cell bX 2
        simp only [List.getElem?_toArray, List.getElem?_cons_zero, List.getElem?_cons_succ] at bXc0 bXc1 bXc2
        have bXl := Blk.lt bX
        have bXm := Nat.lt_succ_of_lt bXl
        have bXk := Nat.lt_succ_of_lt bXm
        have bKc0 := Blk.cell bK 0
        have bKc1 := Blk.cell bK 1
        have bKc2 := Blk.cell bK 2
        simp only [List.getElem?_toArray, List.getElem?_cons_zero, List.getElem?_cons_succ] at bKc0 bKc1 bKc2
        have bKl := Blk.lt bK
        have bKm := Nat.lt_succ_of_lt bKl
        have bKk := Nat.lt_succ_of_lt bKm
        have hz7 : w.heap.size ≤ w7.heap.size := hw7.size
        go_wp2_with (go_at_call 17; refine (is_any _ _ _ _ _).mono ?_; rintro e w' ⟨rfl, rfl⟩)
        go_meet
        exact ⟨by repeat (first | exact hw7 | refine Below.alloc ?_ (by first | omega | (simp; omega) | simp) _), by repeat (first | exact bA | refine Blk.alloc ?_ _), by repeat (first | exact bB | refine Blk.alloc ?_ _)⟩
      · go_wp2_with fail
        go_meet
        exact ⟨hw5, bA, bB⟩
    case rest =>
      obtain ⟨hw6, bA, bB⟩ := hcut
      have hz6 := hw6.size
      rcases hD.out with rfl | rfl | ⟨rfl, rfl, hDv, hc⟩
      · have bAc0 := Blk.cell bA 0
        have bAc1 := Blk.cell bA 1
        have bAc2 := Blk.cell bA 2
        simp only [List.getElem?_toArray, List.getElem?_cons_zero, List.getElem?_cons_succ] at bAc0 bAc1 bAc2
        have bAl := Blk.lt bA
        have bAm := Nat.lt_succ_of_lt bAl
        have bAk := Nat.lt_succ_of_lt bAm
        have bBc0 := Blk.cell bB 0
        have bBc1 := Blk.cell bB 1
        have bBc2 := Blk.cell bB 2
        simp only [List.getElem?_toArray, List.getElem?_cons_zero, List.getElem?_cons_succ] at bBc0 bBc1 bBc2
        have bBl := Blk.lt bB
        have bBm := Nat.lt_succ_of_lt bBl
        have bBk := Nat.lt_succ_of_lt bBm
        go_wp2
        go_ret
        exact ⟨rfl, hw6⟩
      · rcases hk1.out with rfl | rfl
        all_goals
          have bAc0 := Blk.cell bA 0
          have bAc1 := Blk.cell bA 1
          have bAc2 := Blk.cell bA 2
          simp only [List.getElem?_toArray, List.getElem?_cons_zero, List.getElem?_cons_succ] at bAc0 bAc1 bAc2
          have bAl := Blk.lt bA
          have bAm := Nat.lt_succ_of_lt bAl
          have bAk := Nat.lt_succ_of_lt bAm
          have bBc0 := Blk.cell bB 0
          have bBc1 := Blk.cell bB 1
          have bBc2 := Blk.cell bB 2
          simp only [List.getElem?_toArray, List.getElem?_cons_zero, List.getElem?_cons_succ] at bBc0 bBc1 bBc2
          have bBl := Blk.lt bB
          have bBm := Nat.lt_succ_of_lt bBl
          have bBk := Nat.lt_succ_of_lt bBm
          go_wp2
          go_ret
          exact ⟨rfl, hw6⟩
      · have HDv := Lib.hid hDv
        clear hDv
        have bAc0 := Blk.cell bA 0
        have bAc1 := Blk.cell bA 1
        have bAc2 := Blk.cell bA 2
        simp only [List.getElem?_toArray, List.getElem?_cons_zero, List.getElem?_cons_succ] at bAc0 bAc1 bAc2
        have bAl := Blk.lt bA
        have bAm := Nat.lt_succ_of_lt bAl
        have bAk := Nat.lt_succ_of_lt bAm
        have bBc0 := Blk.cell bB 0
        have bBc1 := Blk.cell bB 1
        have bBc2 := Blk.cell bB 2
        simp only [List.getElem?_toArray, List.getElem?_cons_zero, List.getElem?_cons_succ] at bBc0 bBc1 bBc2
        have bBl := Blk.lt bB
        have bBm := Nat.lt_succ_of_lt bBl
        have bBk := Nat.lt_succ_of_lt bBm
        go_wp2_with fail
        clear bAc0 bAc1 bAc2 bAl bAm bAk
        clear bBc0 bBc1 bBc2 bBl bBm bBk
        refine (apply_6 2 i1 noText 2 i2 noText 0 0 4 _ _ HR1 HR2 HDv (Blk.cell (cs := #[.int .i64 2, .int .i64 i1, .string noText, .int .i64 2, .int .i64 i2, .string noText]) (t := 23) (Blk.at (by simp)) 0) (Blk.cell (cs := #[.int .i64 2, .int .i64 i1, .string noText, .int .i64 2, .int .i64 i2, .string noText]) (t := 23) (Blk.at (by simp)) 1) (Blk.cell (cs := #[.int .i64 2, .int .i64 i1, .string noText, .int .i64 2, .int .i64 i2, .string noText]) (t := 23) (Blk.at (by simp)) 2) (Blk.cell (cs := #[.int .i64 2, .int .i64 i1, .string noText, .int .i64 2, .int .i64 i2, .string noText]) (t := 23) (Blk.at (by simp)) 3) (Blk.cell (cs := #[.int .i64 2, .int .i64 i1, .string noText, .int .i64 2, .int .i64 i2, .string noText]) (t := 23) (Blk.at (by simp)) 4) (Blk.cell (cs := #[.int .i64 2, .int .i64 i1, .string noText, .int .i64 2, .int .i64 i2, .string noText]) (t := 23) (Blk.at (by simp)) 5)).mono ?_
        rintro e w7 ⟨rfl, hb7⟩
        have hw7 : Below w.heap.size w w7 := Below.trans (by repeat (first | exact Below.refl _ _ | exact hw6 | refine Below.alloc ?_ (by first | omega | (simp; omega) | simp) _)) (hb7.mono (by simp <;> omega))
        replace bA := Blk.below (b := w.heap.size) (cs := #[.int .i64 2, .int .i64 i1, .string noText]) (t := 23) (by repeat (first | exact bA | (refine Blk.at ?_; (simp; done)) | refine Blk.alloc ?_ _)) hb7
        replace bB := Blk.below (b := w.heap.size + 1) (cs := #[.int .i64 2, .int .i64 i2, .string noText]) (t := 23) (by repeat (first | exact bB | (refine Blk.at ?_; (simp; done)) | refine Blk.alloc ?_ _)) hb7
        have bAc0 := Blk.cell bA 0
        have bAc1 := Blk.cell bA 1
        have bAc2 := Blk.cell bA 2
        simp only [List.getElem?_toArray, List.getElem?_cons_zero, List.getElem?_cons_succ] at bAc0 bAc1 bAc2
        have bAl := Blk.lt bA
        have bAm := Nat.lt_succ_of_lt bAl
        have bAk := Nat.lt_succ_of_lt bAm
        have bBc0 := Blk.cell bB 0
        have bBc1 := Blk.cell bB 1
        have bBc2 := Blk.cell bB 2
        simp only [List.getElem?_toArray, List.getElem?_cons_zero, List.getElem?_cons_succ] at bBc0 bBc1 bBc2
        have bBl := Blk.lt bB
        have bBm := Nat.lt_succ_of_lt bBl
        have bBk := Nat.lt_succ_of_lt bBm
        have hz7 : w.heap.size ≤ w7.heap.size := hw7.size
        rcases hc with rfl | ⟨rfl, hm⟩
        · go_wp2
          go_ret
          refine ⟨?_, by repeat (first | exact hw7 | refine Below.alloc ?_ (by first | omega | (simp; omega) | simp) _)⟩
          rfl
        · have HM := Lib.hid hm
          clear hm
          go_wp2
          go_ret
          refine ⟨?_, by repeat (first | exact hw7 | refine Below.alloc ?_ (by first | omega | (simp; omega) | simp) _)⟩
          first
            | rfl
            | (have := HM.out; simp [this])

end Go.Proofs.YtkobjlmnbfkgaaaDoor
