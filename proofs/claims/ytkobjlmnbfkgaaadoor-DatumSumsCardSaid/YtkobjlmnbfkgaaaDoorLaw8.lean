/-
  The walk of the law DatumDecimals.
-/
import Derived.Test.YtkobjlmnbfkgaaaDoorRel2
import Derived.Test.YtkobjlmnbfkgaaaDoorChange
import Derived.Test.YtkobjlmnbfkgaaaDoorAppC
import Derived.Test.YtkobjlmnbfkgaaaDoorAppD
import Derived.Test.YtkobjlmnbfkgaaaDoorAppE
import Derived.Test.YtkobjlmnbfkgaaaDoorClo0
namespace Go.Proofs.YtkobjlmnbfkgaaaDoor
open Go.RowKit

theorem sc_iff (i : Int) : scB i = true ↔ (-922337203685477 ≤ i ∧ i ≤ 922337203685477) := by
  unfold scB; rw [decide_eq_true_eq]; omega

theorem ordI_lt {a b : Int} (h : a < b) : ordI a b = -1 := by unfold ordI; rw [if_pos h]
theorem ordI_gt {a b : Int} (h : b < a) : ordI a b = 1 := by unfold ordI; rw [if_neg (by omega), if_pos h]
theorem ordI_eq {a b : Int} (h : a = b) : ordI a b = 0 := by subst h; exact ordI_self _

theorem cmpN_23 (i : Int) (h : scB i = true) : cmpN 2 i 3 (i * 10000) = 0 := by
  unfold cmpN
  rw [if_neg (by decide), if_pos rfl, if_pos h, scV_eq i h]
  exact ordI_self _

theorem cmpN_32 (i j : Int) (h : scB i = true) : cmpN 3 (i * 10000) 2 j = ordI i j := by
  have hi := (sc_iff i).mp h
  unfold cmpN
  rw [if_neg (by decide), if_neg (by decide)]
  by_cases hj : scB j = true
  · rw [if_pos hj, scV_eq j hj]
    rcases Int.lt_trichotomy i j with hh | hh | hh
    · rw [ordI_lt hh, ordI_lt (by omega)]
    · rw [ordI_eq hh, ordI_eq (by omega)]
    · rw [ordI_gt hh, ordI_gt (by omega)]
  · rw [if_neg hj]
    have hj2 : ¬ (-922337203685477 ≤ j ∧ j ≤ 922337203685477) := fun x => hj ((sc_iff j).mpr x)
    rcases Int.lt_trichotomy i j with hh | hh | hh
    · rw [ordI_lt hh, ordI_lt (by omega)]
    · omega
    · rw [ordI_gt hh, ordI_gt (by omega)]

/-- datum.is at a truth: whether it is true. -/
theorem is_any (k i e : Int) (s : ByteArray) (w : World) :
    Calls Tryd.prog 17 #[.agg #[.int .i64 k, .int .i64 i, .string s], .int .i64 e] w fun r w' => r = .returned (.bool ((e == 0) && (k == 1) && (i == 1))) ∧ w' = w.alloc (.cells #[.int .i64 k, .int .i64 i, .string s] 23) := by
  cases h1 : (e == 0) <;> cases h2 : (k == 1) <;> cases h3 : (i == 1)
  all_goals
    go_enter Tryd.func17, Tryd.ntmps17
    go_wp2
    go_ret
    exact ⟨rfl, rfl⟩

set_option maxHeartbeats 8000000 in
set_option maxRecDepth 100000 in
theorem dec_room (i j : Int) (w : World) (hi : -922337203685477 ≤ i ∧ i ≤ 922337203685477) (hj : -9223372036854775808 ≤ j ∧ j ≤ 9223372036854775807) :
    Calls Tryd.prog 8 #[.int .i64 i, .int .i64 j] w fun e w' => e = .returned (.bool true) ∧ Below w.heap.size w w' := by
  have hsc := (sc_iff i).mpr hi
  have C1 : Hid (∀ w : World, Calls Tryd.prog 39 #[.int .i64 20, .agg #[.int .i64 2, .int .i64 i, .string noText]] w (ResPost 3 (i * 10000) 0 w)) := by
    intro w
    have := change_dec 2 i (scV i) (scB i) noText w (.inl rfl) (Lib.hid (fun w => scaled_int i noText w (by omega)))
    rw [hsc, scV_eq i hsc] at this
    exact this
  have C5 : Hid (∀ w : World, Calls Tryd.prog 39 #[.int .i64 20, .agg #[.int .i64 3, .int .i64 (i * 10000), .string noText]] w (ResPost 3 (i * 10000) 0 w)) := fun w =>
    change_dec 3 (i * 10000) (i * 10000) true noText w (.inr rfl) (Lib.hid (fun w => scaled_dec (i * 10000) noText w))
  have C2 : Hid (∀ w : World, Calls Tryd.prog 42 #[.int .i64 7, .agg #[.int .i64 2, .int .i64 i, .string noText], .agg #[.int .i64 3, .int .i64 (i * 10000), .string noText]] w (ResPost 1 1 0 w)) := by
    intro w
    have := rel_num 7 2 i noText 3 (i * 10000) noText (cmpN 2 i 3 (i * 10000)) (by omega) rfl rfl (Lib.hid (fun w => cmpN_id i (i * 10000) w (by omega))) w
    rw [cmpN_23 i hsc] at this
    exact this
  have C3 : Hid (∀ w : World, Calls Tryd.prog 42 #[.int .i64 9, .agg #[.int .i64 2, .int .i64 i, .string noText], .agg #[.int .i64 2, .int .i64 j, .string noText]] w (ResPost 1 (bitOf (holdsB 9 (ordI i j))) 0 w)) := fun w =>
    rel_num 9 2 i noText 2 j noText (ordI i j) (by omega) rfl rfl (Lib.hid (fun w => cmpN_same 2 i j w)) w
  have C4 : Hid (∀ w : World, Calls Tryd.prog 42 #[.int .i64 9, .agg #[.int .i64 3, .int .i64 (i * 10000), .string noText], .agg #[.int .i64 2, .int .i64 j, .string noText]] w (ResPost 1 (bitOf (holdsB 9 (ordI i j))) 0 w)) := by
    intro w
    have := rel_num 9 3 (i * 10000) noText 2 j noText (cmpN 3 (i * 10000) 2 j) (by omega) rfl rfl (Lib.hid (fun w => cmpN_di (i * 10000) j w hj)) w
    rw [cmpN_32 i j hsc] at this
    exact this
  have u1 : i ≤ 922337203685477 := hi.2
  have u2 : -922337203685477 ≤ i := hi.1
  have u3 : -9223372036854775808 ≤ i * 10000 := by omega
  have u4 : i * 10000 ≤ 9223372036854775807 := by omega
  generalize bitOf (holdsB 9 (ordI i j)) = L at *
  clear hsc hi hj
  go_enter Tryd.func8, Tryd.ntmps8
  go_wp2_with fail
  have bA : Blk _ w.heap.size #[.int .i64 2, .int .i64 i, .string noText] 23 := Blk.new w #[.int .i64 2, .int .i64 i, .string noText] 23
  have bB : Blk _ (w.heap.size + 1) #[.int .i64 2, .int .i64 j, .string noText] 23 := Blk.at (W := w.alloc (.cells #[.int .i64 2, .int .i64 i, .string noText] 23)) (by simp)
  replace bA := bA.alloc (.cells #[.int .i64 2, .int .i64 j, .string noText] 23)
  refine (apply_20 2 i noText 3 (i * 10000) 0 _ _ (Lib.hid (right_post0 2 i (by unfold okSmall; simp))) C1 (Blk.cell (cs := #[.int .i64 2, .int .i64 i, .string noText]) (t := 23) (Blk.at (by simp)) 0) (Blk.cell (cs := #[.int .i64 2, .int .i64 i, .string noText]) (t := 23) (Blk.at (by simp)) 1) (Blk.cell (cs := #[.int .i64 2, .int .i64 i, .string noText]) (t := 23) (Blk.at (by simp)) 2)).mono ?_
  rintro e w1 ⟨rfl, hb1⟩
  have hw1 : Below w.heap.size w w1 := Below.trans (by repeat (first | exact Below.refl _ _ | exact Below.refl _ _ | refine Below.alloc ?_ (by first | omega | (simp; omega) | simp) _)) (hb1.mono (by simp <;> omega))
  replace bA := Blk.below (b := w.heap.size) (cs := #[.int .i64 2, .int .i64 i, .string noText]) (t := 23) (by repeat (first | exact bA | (refine Blk.at ?_; (simp; done)) | refine Blk.alloc ?_ _)) hb1
  replace bB := Blk.below (b := w.heap.size + 1) (cs := #[.int .i64 2, .int .i64 j, .string noText]) (t := 23) (by repeat (first | exact bB | (refine Blk.at ?_; (simp; done)) | refine Blk.alloc ?_ _)) hb1
  have bAc0 := Blk.cell bA 0
  have bAc1 := Blk.cell bA 1
  have bAc2 := Blk.cell bA 2
  simp only [List.getElem?_toArray, List.getElem?_cons_zero, List.getElem?_cons_succ] at bAc0 bAc1 bAc2
  have bAl := Blk.lt bA
  have bAm := Nat.lt_succ_of_lt bAl
  have bAk := Nat.lt_succ_of_lt bAm
  have bBc0 := Blk.cell bB 0
  have bBc1 := Blk.cell bB 1
  have bBc2 := Blk.cell bB 2
  simp only [List.getElem?_toArray, List.getElem?_cons_zero, List.getElem?_cons_succ] at bBc0 bBc1 bBc2
  have bBl := Blk.lt bB
  have bBm := Nat.lt_succ_of_lt bBl
  have bBk := Nat.lt_succ_of_lt bBm
  have hz1 : w.heap.size ≤ w1.heap.size := hw1.size
  go_wp2_with fail
  have bX : Blk (w1.alloc (.cells #[.int .i64 3, .int .i64 (i * 10000), .string noText] 23)) w1.heap.size #[.int .i64 3, .int .i64 (i * 10000), .string noText] 23 := Blk.new w1 #[.int .i64 3, .int .i64 (i * 10000), .string noText] 23
  clear bAc0 bAc1 bAc2 bAl bAm bAk
  clear bBc0 bBc1 bBc2 bBl bBm bBk
  refine (apply_7 2 i noText 3 (i * 10000) noText 1 1 0 _ _ (Lib.hid (right_post0 2 i (by unfold okSmall; simp))) (Lib.hid (right_post0 3 (i * 10000) (by unfold okSmall; simp))) C2 (Blk.cell (cs := #[.int .i64 2, .int .i64 i, .string noText, .int .i64 3, .int .i64 (i * 10000), .string noText]) (t := 23) (Blk.at (by simp)) 0) (Blk.cell (cs := #[.int .i64 2, .int .i64 i, .string noText, .int .i64 3, .int .i64 (i * 10000), .string noText]) (t := 23) (Blk.at (by simp)) 1) (Blk.cell (cs := #[.int .i64 2, .int .i64 i, .string noText, .int .i64 3, .int .i64 (i * 10000), .string noText]) (t := 23) (Blk.at (by simp)) 2) (Blk.cell (cs := #[.int .i64 2, .int .i64 i, .string noText, .int .i64 3, .int .i64 (i * 10000), .string noText]) (t := 23) (Blk.at (by simp)) 3) (Blk.cell (cs := #[.int .i64 2, .int .i64 i, .string noText, .int .i64 3, .int .i64 (i * 10000), .string noText]) (t := 23) (Blk.at (by simp)) 4) (Blk.cell (cs := #[.int .i64 2, .int .i64 i, .string noText, .int .i64 3, .int .i64 (i * 10000), .string noText]) (t := 23) (Blk.at (by simp)) 5)).mono ?_
  rintro e w2 ⟨rfl, hb2⟩
  have hw2 : Below w.heap.size w w2 := Below.trans (by repeat (first | exact Below.refl _ _ | exact hw1 | refine Below.alloc ?_ (by first | omega | (simp; omega) | simp) _)) (hb2.mono (by simp <;> omega))
  replace bA := Blk.below (b := w.heap.size) (cs := #[.int .i64 2, .int .i64 i, .string noText]) (t := 23) (by repeat (first | exact bA | (refine Blk.at ?_; (simp; done)) | refine Blk.alloc ?_ _)) hb2
  replace bB := Blk.below (b := w.heap.size + 1) (cs := #[.int .i64 2, .int .i64 j, .string noText]) (t := 23) (by repeat (first | exact bB | (refine Blk.at ?_; (simp; done)) | refine Blk.alloc ?_ _)) hb2
  replace bX := Blk.below (b := w1.heap.size) (cs := #[.int .i64 3, .int .i64 (i * 10000), .string noText]) (t := 23) (by repeat (first | exact bX | (refine Blk.at ?_; (simp; done)) | refine Blk.alloc ?_ _)) hb2
  have bAc0 := Blk.cell bA 0
  have bAc1 := Blk.cell bA 1
  have bAc2 := Blk.cell bA 2
  simp only [List.getElem?_toArray, List.getElem?_cons_zero, List.getElem?_cons_succ] at bAc0 bAc1 bAc2
  have bAl := Blk.lt bA
  have bAm := Nat.lt_succ_of_lt bAl
  have bAk := Nat.lt_succ_of_lt bAm
  have bBc0 := Blk.cell bB 0
  have bBc1 := Blk.cell bB 1
  have bBc2 := Blk.cell bB 2
  simp only [List.getElem?_toArray, List.getElem?_cons_zero, List.getElem?_cons_succ] at bBc0 bBc1 bBc2
  have bBl := Blk.lt bB
  have bBm := Nat.lt_succ_of_lt bBl
  have bBk := Nat.lt_succ_of_lt bBm
  have bXc0 := Blk.cell bX 0
  have bXc1 := Blk.cell bX 1
  have bXc2 := Blk.cell bX 2
  simp only [List.getElem?_toArray, List.getElem?_cons_zero, List.getElem?_cons_succ] at bXc0 bXc1 bXc2
  have bXl := Blk.lt bX
  have bXm := Nat.lt_succ_of_lt bXl
  have bXk := Nat.lt_succ_of_lt bXm
  have hz2 : w.heap.size ≤ w2.heap.size := hw2.size
  go_wp2_with fail
  have bE : Blk (w2.alloc (.cells #[.int .i64 1, .int .i64 1, .string noText] 23)) w2.heap.size #[.int .i64 1, .int .i64 1, .string noText] 23 := Blk.new w2 #[.int .i64 1, .int .i64 1, .string noText] 23
  clear bAc0 bAc1 bAc2 bAl bAm bAk
  clear bBc0 bBc1 bBc2 bBl bBm bBk
  clear bXc0 bXc1 bXc2 bXl bXm bXk
  refine (apply_9 2 i noText 2 j noText 1 L 0 _ _ (Lib.hid (right_post0 2 i (by unfold okSmall; simp))) (Lib.hid (right_post0 2 j (by unfold okSmall; simp))) C3 (Blk.cell (cs := #[.int .i64 2, .int .i64 i, .string noText, .int .i64 2, .int .i64 j, .string noText]) (t := 23) (Blk.at (by simp)) 0) (Blk.cell (cs := #[.int .i64 2, .int .i64 i, .string noText, .int .i64 2, .int .i64 j, .string noText]) (t := 23) (Blk.at (by simp)) 1) (Blk.cell (cs := #[.int .i64 2, .int .i64 i, .string noText, .int .i64 2, .int .i64 j, .string noText]) (t := 23) (Blk.at (by simp)) 2) (Blk.cell (cs := #[.int .i64 2, .int .i64 i, .string noText, .int .i64 2, .int .i64 j, .string noText]) (t := 23) (Blk.at (by simp)) 3) (Blk.cell (cs := #[.int .i64 2, .int .i64 i, .string noText, .int .i64 2, .int .i64 j, .string noText]) (t := 23) (Blk.at (by simp)) 4) (Blk.cell (cs := #[.int .i64 2, .int .i64 i, .string noText, .int .i64 2, .int .i64 j, .string noText]) (t := 23) (Blk.at (by simp)) 5)).mono ?_
  rintro e w3 ⟨rfl, hb3⟩
  have hw3 : Below w.heap.size w w3 := Below.trans (by repeat (first | exact Below.refl _ _ | exact hw2 | refine Below.alloc ?_ (by first | omega | (simp; omega) | simp) _)) (hb3.mono (by simp <;> omega))
  replace bA := Blk.below (b := w.heap.size) (cs := #[.int .i64 2, .int .i64 i, .string noText]) (t := 23) (by repeat (first | exact bA | (refine Blk.at ?_; (simp; done)) | refine Blk.alloc ?_ _)) hb3
  replace bB := Blk.below (b := w.heap.size + 1) (cs := #[.int .i64 2, .int .i64 j, .string noText]) (t := 23) (by repeat (first | exact bB | (refine Blk.at ?_; (simp; done)) | refine Blk.alloc ?_ _)) hb3
  replace bX := Blk.below (b := w1.heap.size) (cs := #[.int .i64 3, .int .i64 (i * 10000), .string noText]) (t := 23) (by repeat (first | exact bX | (refine Blk.at ?_; (simp; done)) | refine Blk.alloc ?_ _)) hb3
  replace bE := Blk.below (b := w2.heap.size) (cs := #[.int .i64 1, .int .i64 1, .string noText]) (t := 23) (by repeat (first | exact bE | (refine Blk.at ?_; (simp; done)) | refine Blk.alloc ?_ _)) hb3
  have bAc0 := Blk.cell bA 0
  have bAc1 := Blk.cell bA 1
  have bAc2 := Blk.cell bA 2
  simp only [List.getElem?_toArray, List.getElem?_cons_zero, List.getElem?_cons_succ] at bAc0 bAc1 bAc2
  have bAl := Blk.lt bA
  have bAm := Nat.lt_succ_of_lt bAl
  have bAk := Nat.lt_succ_of_lt bAm
  have bBc0 := Blk.cell bB 0
  have bBc1 := Blk.cell bB 1
  have bBc2 := Blk.cell bB 2
  simp only [List.getElem?_toArray, List.getElem?_cons_zero, List.getElem?_cons_succ] at bBc0 bBc1 bBc2
  have bBl := Blk.lt bB
  have bBm := Nat.lt_succ_of_lt bBl
  have bBk := Nat.lt_succ_of_lt bBm
  have bXc0 := Blk.cell bX 0
  have bXc1 := Blk.cell bX 1
  have bXc2 := Blk.cell bX 2
  simp only [List.getElem?_toArray, List.getElem?_cons_zero, List.getElem?_cons_succ] at bXc0 bXc1 bXc2
  have bXl := Blk.lt bX
  have bXm := Nat.lt_succ_of_lt bXl
  have bXk := Nat.lt_succ_of_lt bXm
  have bEc0 := Blk.cell bE 0
  have bEc1 := Blk.cell bE 1
  have bEc2 := Blk.cell bE 2
  simp only [List.getElem?_toArray, List.getElem?_cons_zero, List.getElem?_cons_succ] at bEc0 bEc1 bEc2
  have bEl := Blk.lt bE
  have bEm := Nat.lt_succ_of_lt bEl
  have bEk := Nat.lt_succ_of_lt bEm
  have hz3 : w.heap.size ≤ w3.heap.size := hw3.size
  go_wp2_with fail
  have bL : Blk (w3.alloc (.cells #[.int .i64 1, .int .i64 L, .string noText] 23)) w3.heap.size #[.int .i64 1, .int .i64 L, .string noText] 23 := Blk.new w3 #[.int .i64 1, .int .i64 L, .string noText] 23
  clear bAc0 bAc1 bAc2 bAl bAm bAk
  clear bBc0 bBc1 bBc2 bBl bBm bBk
  clear bXc0 bXc1 bXc2 bXl bXm bXk
  clear bEc0 bEc1 bEc2 bEl bEm bEk
  refine (apply_9 3 (i * 10000) noText 2 j noText 1 L 0 _ _ (Lib.hid (right_post0 3 (i * 10000) (by unfold okSmall; simp))) (Lib.hid (right_post0 2 j (by unfold okSmall; simp))) C4 (Blk.cell (cs := #[.int .i64 3, .int .i64 (i * 10000), .string noText, .int .i64 2, .int .i64 j, .string noText]) (t := 23) (Blk.at (by simp)) 0) (Blk.cell (cs := #[.int .i64 3, .int .i64 (i * 10000), .string noText, .int .i64 2, .int .i64 j, .string noText]) (t := 23) (Blk.at (by simp)) 1) (Blk.cell (cs := #[.int .i64 3, .int .i64 (i * 10000), .string noText, .int .i64 2, .int .i64 j, .string noText]) (t := 23) (Blk.at (by simp)) 2) (Blk.cell (cs := #[.int .i64 3, .int .i64 (i * 10000), .string noText, .int .i64 2, .int .i64 j, .string noText]) (t := 23) (Blk.at (by simp)) 3) (Blk.cell (cs := #[.int .i64 3, .int .i64 (i * 10000), .string noText, .int .i64 2, .int .i64 j, .string noText]) (t := 23) (Blk.at (by simp)) 4) (Blk.cell (cs := #[.int .i64 3, .int .i64 (i * 10000), .string noText, .int .i64 2, .int .i64 j, .string noText]) (t := 23) (Blk.at (by simp)) 5)).mono ?_
  rintro e w4 ⟨rfl, hb4⟩
  have hw4 : Below w.heap.size w w4 := Below.trans (by repeat (first | exact Below.refl _ _ | exact hw3 | refine Below.alloc ?_ (by first | omega | (simp; omega) | simp) _)) (hb4.mono (by simp <;> omega))
  replace bA := Blk.below (b := w.heap.size) (cs := #[.int .i64 2, .int .i64 i, .string noText]) (t := 23) (by repeat (first | exact bA | (refine Blk.at ?_; (simp; done)) | refine Blk.alloc ?_ _)) hb4
  replace bB := Blk.below (b := w.heap.size + 1) (cs := #[.int .i64 2, .int .i64 j, .string noText]) (t := 23) (by repeat (first | exact bB | (refine Blk.at ?_; (simp; done)) | refine Blk.alloc ?_ _)) hb4
  replace bX := Blk.below (b := w1.heap.size) (cs := #[.int .i64 3, .int .i64 (i * 10000), .string noText]) (t := 23) (by repeat (first | exact bX | (refine Blk.at ?_; (simp; done)) | refine Blk.alloc ?_ _)) hb4
  replace bE := Blk.below (b := w2.heap.size) (cs := #[.int .i64 1, .int .i64 1, .string noText]) (t := 23) (by repeat (first | exact bE | (refine Blk.at ?_; (simp; done)) | refine Blk.alloc ?_ _)) hb4
  replace bL := Blk.below (b := w3.heap.size) (cs := #[.int .i64 1, .int .i64 L, .string noText]) (t := 23) (by repeat (first | exact bL | (refine Blk.at ?_; (simp; done)) | refine Blk.alloc ?_ _)) hb4
  have bAc0 := Blk.cell bA 0
  have bAc1 := Blk.cell bA 1
  have bAc2 := Blk.cell bA 2
  simp only [List.getElem?_toArray, List.getElem?_cons_zero, List.getElem?_cons_succ] at bAc0 bAc1 bAc2
  have bAl := Blk.lt bA
  have bAm := Nat.lt_succ_of_lt bAl
  have bAk := Nat.lt_succ_of_lt bAm
  have bBc0 := Blk.cell bB 0
  have bBc1 := Blk.cell bB 1
  have bBc2 := Blk.cell bB 2
  simp only [List.getElem?_toArray, List.getElem?_cons_zero, List.getElem?_cons_succ] at bBc0 bBc1 bBc2
  have bBl := Blk.lt bB
  have bBm := Nat.lt_succ_of_lt bBl
  have bBk := Nat.lt_succ_of_lt bBm
  have bXc0 := Blk.cell bX 0
  have bXc1 := Blk.cell bX 1
  have bXc2 := Blk.cell bX 2
  simp only [List.getElem?_toArray, List.getElem?_cons_zero, List.getElem?_cons_succ] at bXc0 bXc1 bXc2
  have bXl := Blk.lt bX
  have bXm := Nat.lt_succ_of_lt bXl
  have bXk := Nat.lt_succ_of_lt bXm
  have bEc0 := Blk.cell bE 0
  have bEc1 := Blk.cell bE 1
  have bEc2 := Blk.cell bE 2
  simp only [List.getElem?_toArray, List.getElem?_cons_zero, List.getElem?_cons_succ] at bEc0 bEc1 bEc2
  have bEl := Blk.lt bE
  have bEm := Nat.lt_succ_of_lt bEl
  have bEk := Nat.lt_succ_of_lt bEm
  have bLc0 := Blk.cell bL 0
  have bLc1 := Blk.cell bL 1
  have bLc2 := Blk.cell bL 2
  simp only [List.getElem?_toArray, List.getElem?_cons_zero, List.getElem?_cons_succ] at bLc0 bLc1 bLc2
  have bLl := Blk.lt bL
  have bLm := Nat.lt_succ_of_lt bLl
  have bLk := Nat.lt_succ_of_lt bLm
  have hz4 : w.heap.size ≤ w4.heap.size := hw4.size
  go_wp2_with fail
  have bT : Blk (w4.alloc (.cells #[.int .i64 1, .int .i64 L, .string noText] 23)) w4.heap.size #[.int .i64 1, .int .i64 L, .string noText] 23 := Blk.new w4 #[.int .i64 1, .int .i64 L, .string noText] 23
  clear bAc0 bAc1 bAc2 bAl bAm bAk
  clear bBc0 bBc1 bBc2 bBl bBm bBk
  clear bXc0 bXc1 bXc2 bXl bXm bXk
  clear bEc0 bEc1 bEc2 bEl bEm bEk
  clear bLc0 bLc1 bLc2 bLl bLm bLk
  refine (apply_20 3 (i * 10000) noText 3 (i * 10000) 0 _ _ (Lib.hid (right_post0 3 (i * 10000) (by unfold okSmall; simp))) C5 (Blk.cell (cs := #[.int .i64 3, .int .i64 (i * 10000), .string noText]) (t := 23) (Blk.at (by simp)) 0) (Blk.cell (cs := #[.int .i64 3, .int .i64 (i * 10000), .string noText]) (t := 23) (Blk.at (by simp)) 1) (Blk.cell (cs := #[.int .i64 3, .int .i64 (i * 10000), .string noText]) (t := 23) (Blk.at (by simp)) 2)).mono ?_
  rintro e w5 ⟨rfl, hb5⟩
  have hw5 : Below w.heap.size w w5 := Below.trans (by repeat (first | exact Below.refl _ _ | exact hw4 | refine Below.alloc ?_ (by first | omega | (simp; omega) | simp) _)) (hb5.mono (by simp <;> omega))
  replace bA := Blk.below (b := w.heap.size) (cs := #[.int .i64 2, .int .i64 i, .string noText]) (t := 23) (by repeat (first | exact bA | (refine Blk.at ?_; (simp; done)) | refine Blk.alloc ?_ _)) hb5
  replace bB := Blk.below (b := w.heap.size + 1) (cs := #[.int .i64 2, .int .i64 j, .string noText]) (t := 23) (by repeat (first | exact bB | (refine Blk.at ?_; (simp; done)) | refine Blk.alloc ?_ _)) hb5
  replace bX := Blk.below (b := w1.heap.size) (cs := #[.int .i64 3, .int .i64 (i * 10000), .string noText]) (t := 23) (by repeat (first | exact bX | (refine Blk.at ?_; (simp; done)) | refine Blk.alloc ?_ _)) hb5
  replace bE := Blk.below (b := w2.heap.size) (cs := #[.int .i64 1, .int .i64 1, .string noText]) (t := 23) (by repeat (first | exact bE | (refine Blk.at ?_; (simp; done)) | refine Blk.alloc ?_ _)) hb5
  replace bL := Blk.below (b := w3.heap.size) (cs := #[.int .i64 1, .int .i64 L, .string noText]) (t := 23) (by repeat (first | exact bL | (refine Blk.at ?_; (simp; done)) | refine Blk.alloc ?_ _)) hb5
  replace bT := Blk.below (b := w4.heap.size) (cs := #[.int .i64 1, .int .i64 L, .string noText]) (t := 23) (by repeat (first | exact bT | (refine Blk.at ?_; (simp; done)) | refine Blk.alloc ?_ _)) hb5
  have bAc0 := Blk.cell bA 0
  have bAc1 := Blk.cell bA 1
  have bAc2 := Blk.cell bA 2
  simp only [List.getElem?_toArray, List.getElem?_cons_zero, List.getElem?_cons_succ] at bAc0 bAc1 bAc2
  have bAl := Blk.lt bA
  have bAm := Nat.lt_succ_of_lt bAl
  have bAk := Nat.lt_succ_of_lt bAm
  have bBc0 := Blk.cell bB 0
  have bBc1 := Blk.cell bB 1
  have bBc2 := Blk.cell bB 2
  simp only [List.getElem?_toArray, List.getElem?_cons_zero, List.getElem?_cons_succ] at bBc0 bBc1 bBc2
  have bBl := Blk.lt bB
  have bBm := Nat.lt_succ_of_lt bBl
  have bBk := Nat.lt_succ_of_lt bBm
  have bXc0 := Blk.cell bX 0
  have bXc1 := Blk.cell bX 1
  have bXc2 := Blk.cell bX 2
  simp only [List.getElem?_toArray, List.getElem?_cons_zero, List.getElem?_cons_succ] at bXc0 bXc1 bXc2
  have bXl := Blk.lt bX
  have bXm := Nat.lt_succ_of_lt bXl
  have bXk := Nat.lt_succ_of_lt bXm
  have bEc0 := Blk.cell bE 0
  have bEc1 := Blk.cell bE 1
  have bEc2 := Blk.cell bE 2
  simp only [List.getElem?_toArray, List.getElem?_cons_zero, List.getElem?_cons_succ] at bEc0 bEc1 bEc2
  have bEl := Blk.lt bE
  have bEm := Nat.lt_succ_of_lt bEl
  have bEk := Nat.lt_succ_of_lt bEm
  have bLc0 := Blk.cell bL 0
  have bLc1 := Blk.cell bL 1
  have bLc2 := Blk.cell bL 2
  simp only [List.getElem?_toArray, List.getElem?_cons_zero, List.getElem?_cons_succ] at bLc0 bLc1 bLc2
  have bLl := Blk.lt bL
  have bLm := Nat.lt_succ_of_lt bLl
  have bLk := Nat.lt_succ_of_lt bLm
  have bTc0 := Blk.cell bT 0
  have bTc1 := Blk.cell bT 1
  have bTc2 := Blk.cell bT 2
  simp only [List.getElem?_toArray, List.getElem?_cons_zero, List.getElem?_cons_succ] at bTc0 bTc1 bTc2
  have bTl := Blk.lt bT
  have bTm := Nat.lt_succ_of_lt bTl
  have bTk := Nat.lt_succ_of_lt bTm
  have hz5 : w.heap.size ≤ w5.heap.size := hw5.size
  go_wp2_with (go_at_call 17; refine (is_any _ _ _ _ _).mono ?_; rintro e w' ⟨rfl, rfl⟩)
  go_ret
  refine ⟨rfl, ?_⟩
  repeat (first | exact hw5 | refine Below.alloc ?_ (by first | omega | (simp; omega) | simp) _)

set_option maxHeartbeats 8000000 in
set_option maxRecDepth 100000 in
theorem dec_noroom (i j : Int) (w : World) (hi : ¬ (-922337203685477 ≤ i ∧ i ≤ 922337203685477)) (hi2 : -9223372036854775808 ≤ i ∧ i ≤ 9223372036854775807) :
    Calls Tryd.prog 8 #[.int .i64 i, .int .i64 j] w fun e w' => e = .returned (.bool true) ∧ Below w.heap.size w w' := by
  have hsc : scB i = false := by
    cases h : scB i
    · rfl
    · exact absurd ((sc_iff i).mp h) hi
  have C1 : Hid (∀ w : World, Calls Tryd.prog 39 #[.int .i64 20, .agg #[.int .i64 2, .int .i64 i, .string noText]] w (ResPost 0 0 4 w)) := by
    intro w
    have := change_dec 2 i (scV i) (scB i) noText w (.inl rfl) (Lib.hid (fun w => scaled_int i noText w (by omega)))
    rw [hsc] at this
    exact this
  have C2 : Hid (∀ w : World, Calls Tryd.prog 42 #[.int .i64 11, .agg #[.int .i64 2, .int .i64 i, .string noText], .agg #[.int .i64 3, .int .i64 j, .string noText]] w (ResPost 1 (bitOf (decide (0 < i))) 0 w)) := by
    intro w
    have := rel_num 11 2 i noText 3 j noText (cmpN 2 i 3 j) (by omega) rfl rfl (Lib.hid (fun w => cmpN_id i j w (by omega))) w
    have e : cmpN 2 i 3 j = ordI i 0 := by unfold cmpN; rw [if_neg (by decide), if_pos rfl, hsc]; rfl
    have e2 : holdsB 11 (ordI i 0) = decide (0 < i) := by
      unfold holdsB
      rcases Int.lt_trichotomy i 0 with hh | hh | hh
      · rw [ordI_lt hh]; simp; omega
      · subst hh; rw [ordI_self]; simp
      · rw [ordI_gt hh]; simp [hh]
    rw [e, e2] at this
    exact this
  have hcase : (i ≤ 922337203685477 ∧ i < -922337203685477 ∧ ¬ 0 < i) ∨ (922337203685477 < i ∧ 0 < i) := by omega
  clear hsc hi hi2
  rcases hcase with ⟨u1, u2, u3⟩ | ⟨u1, u2⟩
  have u4 : decide (-922337203685477 ≤ i) = false := by simp; omega
  all_goals
    go_enter Tryd.func8, Tryd.ntmps8
    go_wp2_with fail
    have bA : Blk _ w.heap.size #[.int .i64 2, .int .i64 i, .string noText] 23 := Blk.new w #[.int .i64 2, .int .i64 i, .string noText] 23
    have bB : Blk _ (w.heap.size + 1) #[.int .i64 2, .int .i64 j, .string noText] 23 := Blk.at (W := w.alloc (.cells #[.int .i64 2, .int .i64 i, .string noText] 23)) (by simp)
    replace bA := bA.alloc (.cells #[.int .i64 2, .int .i64 j, .string noText] 23)
    refine (apply_20 2 i noText 0 0 4 _ _ (Lib.hid (right_post0 2 i (by unfold okSmall; simp))) C1 (Blk.cell (cs := #[.int .i64 2, .int .i64 i, .string noText]) (t := 23) (Blk.at (by simp)) 0) (Blk.cell (cs := #[.int .i64 2, .int .i64 i, .string noText]) (t := 23) (Blk.at (by simp)) 1) (Blk.cell (cs := #[.int .i64 2, .int .i64 i, .string noText]) (t := 23) (Blk.at (by simp)) 2)).mono ?_
    rintro e w1 ⟨rfl, hb1⟩
    have hw1 : Below w.heap.size w w1 := Below.trans (by repeat (first | exact Below.refl _ _ | exact Below.refl _ _ | refine Below.alloc ?_ (by first | omega | (simp; omega) | simp) _)) (hb1.mono (by simp <;> omega))
    replace bA := Blk.below (b := w.heap.size) (cs := #[.int .i64 2, .int .i64 i, .string noText]) (t := 23) (by repeat (first | exact bA | (refine Blk.at ?_; (simp; done)) | refine Blk.alloc ?_ _)) hb1
    replace bB := Blk.below (b := w.heap.size + 1) (cs := #[.int .i64 2, .int .i64 j, .string noText]) (t := 23) (by repeat (first | exact bB | (refine Blk.at ?_; (simp; done)) | refine Blk.alloc ?_ _)) hb1
    have bAc0 := Blk.cell bA 0
    have bAc1 := Blk.cell bA 1
    have bAc2 := Blk.cell bA 2
    simp only [List.getElem?_toArray, List.getElem?_cons_zero, List.getElem?_cons_succ] at bAc0 bAc1 bAc2
    have bAl := Blk.lt bA
    have bAm := Nat.lt_succ_of_lt bAl
    have bAk := Nat.lt_succ_of_lt bAm
    have bBc0 := Blk.cell bB 0
    have bBc1 := Blk.cell bB 1
    have bBc2 := Blk.cell bB 2
    simp only [List.getElem?_toArray, List.getElem?_cons_zero, List.getElem?_cons_succ] at bBc0 bBc1 bBc2
    have bBl := Blk.lt bB
    have bBm := Nat.lt_succ_of_lt bBl
    have bBk := Nat.lt_succ_of_lt bBm
    have hz1 : w.heap.size ≤ w1.heap.size := hw1.size
    go_wp2_with fail
    clear bAc0 bAc1 bAc2 bAl bAm bAk
    clear bBc0 bBc1 bBc2 bBl bBm bBk
    refine (apply_11 2 i noText 3 j noText 1 (bitOf (decide (0 < i))) 0 _ _ (Lib.hid (right_post0 2 i (by unfold okSmall; simp))) (Lib.hid (right_post0 3 j (by unfold okSmall; simp))) C2 (Blk.cell (cs := #[.int .i64 2, .int .i64 i, .string noText, .int .i64 3, .int .i64 j, .string noText]) (t := 23) (Blk.at (by simp)) 0) (Blk.cell (cs := #[.int .i64 2, .int .i64 i, .string noText, .int .i64 3, .int .i64 j, .string noText]) (t := 23) (Blk.at (by simp)) 1) (Blk.cell (cs := #[.int .i64 2, .int .i64 i, .string noText, .int .i64 3, .int .i64 j, .string noText]) (t := 23) (Blk.at (by simp)) 2) (Blk.cell (cs := #[.int .i64 2, .int .i64 i, .string noText, .int .i64 3, .int .i64 j, .string noText]) (t := 23) (Blk.at (by simp)) 3) (Blk.cell (cs := #[.int .i64 2, .int .i64 i, .string noText, .int .i64 3, .int .i64 j, .string noText]) (t := 23) (Blk.at (by simp)) 4) (Blk.cell (cs := #[.int .i64 2, .int .i64 i, .string noText, .int .i64 3, .int .i64 j, .string noText]) (t := 23) (Blk.at (by simp)) 5)).mono ?_
    rintro e w2 ⟨rfl, hb2⟩
    have hw2 : Below w.heap.size w w2 := Below.trans (by repeat (first | exact Below.refl _ _ | exact hw1 | refine Below.alloc ?_ (by first | omega | (simp; omega) | simp) _)) (hb2.mono (by simp <;> omega))
    replace bA := Blk.below (b := w.heap.size) (cs := #[.int .i64 2, .int .i64 i, .string noText]) (t := 23) (by repeat (first | exact bA | (refine Blk.at ?_; (simp; done)) | refine Blk.alloc ?_ _)) hb2
    replace bB := Blk.below (b := w.heap.size + 1) (cs := #[.int .i64 2, .int .i64 j, .string noText]) (t := 23) (by repeat (first | exact bB | (refine Blk.at ?_; (simp; done)) | refine Blk.alloc ?_ _)) hb2
    have bAc0 := Blk.cell bA 0
    have bAc1 := Blk.cell bA 1
    have bAc2 := Blk.cell bA 2
    simp only [List.getElem?_toArray, List.getElem?_cons_zero, List.getElem?_cons_succ] at bAc0 bAc1 bAc2
    have bAl := Blk.lt bA
    have bAm := Nat.lt_succ_of_lt bAl
    have bAk := Nat.lt_succ_of_lt bAm
    have bBc0 := Blk.cell bB 0
    have bBc1 := Blk.cell bB 1
    have bBc2 := Blk.cell bB 2
    simp only [List.getElem?_toArray, List.getElem?_cons_zero, List.getElem?_cons_succ] at bBc0 bBc1 bBc2
    have bBl := Blk.lt bB
    have bBm := Nat.lt_succ_of_lt bBl
    have bBk := Nat.lt_succ_of_lt bBm
    have hz2 : w.heap.size ≤ w2.heap.size := hw2.size
    go_wp2_with (go_at_call 17; refine (is_any _ _ _ _ _).mono ?_; rintro e w' ⟨rfl, rfl⟩)
    go_ret
    refine ⟨?_, ?_⟩
    · by_cases hp : 0 < i <;> simp [bitOf, hp]
    · repeat (first | exact hw2 | refine Below.alloc ?_ (by first | omega | (simp; omega) | simp) _)

theorem decimals_any (i j : Int) (w : World) (hi : -9223372036854775808 ≤ i ∧ i ≤ 9223372036854775807) (hj : -9223372036854775808 ≤ j ∧ j ≤ 9223372036854775807) :
    Calls Tryd.prog 8 #[.int .i64 i, .int .i64 j] w fun e w' => e = .returned (.bool true) ∧ Below w.heap.size w w' := by
  by_cases h : -922337203685477 ≤ i ∧ i ≤ 922337203685477
  · exact dec_room i j w h hj
  · exact dec_noroom i j w h hi

end Go.Proofs.YtkobjlmnbfkgaaaDoor
