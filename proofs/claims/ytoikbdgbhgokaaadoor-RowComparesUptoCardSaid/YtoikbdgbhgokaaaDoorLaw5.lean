/-
  The walk of the law RowOrder: it returns true of every two rows; the tables of unicode/utf8 stand as their initialisers lay them.
-/
import Derived.Test.YtoikbdgbhgokaaaDoorLaw2
import Derived.Test.YtoikbdgbhgokaaaDoorCmpRow
namespace Go.Proofs.YtoikbdgbhgokaaaDoor
open Go.RowKit

theorem bytesLess_cb : ∀ a b : List UInt8, Op.bytesLess a b = decide (Lib.compareBytes a b = -1)
  | [], [] => by simp [Op.bytesLess, Lib.compareBytes]
  | [], _ :: _ => by simp [Op.bytesLess, Lib.compareBytes]
  | _ :: _, [] => by simp [Op.bytesLess, Lib.compareBytes]
  | a :: x, b :: y => by
    have ih := bytesLess_cb x y
    rcases u8_tri a b with h | h | h
    · rw [cb_lt a b x y h]; simp [Op.bytesLess, h]
    · subst h; rw [cb_cons]; simp [Op.bytesLess, ih]
    · rw [cb_gt a b x y h]
      have h1 := u8_asymm h
      have h2 : ¬ a = b := by rintro rfl; exact u8_lt_irrefl a h
      simp [Op.bytesLess, h1, h2]

set_option maxRecDepth 100000 in
set_option maxHeartbeats 4000000 in
theorem order_core (v1 v2 : Value) (S1 S2 : ByteArray) (E1 E2 n : Int) (w : World)
    (HE1 : Hid (∀ W, Below w.heap.size w W → Calls Tryd.prog 15 #[v1] W fun e w' => e = .returned (.tuple #[.string S1, .int .i64 E1]) ∧ Below W.heap.size W w'))
    (HE2 : Hid (∀ W, Below w.heap.size w W → Calls Tryd.prog 15 #[v2] W fun e w' => e = .returned (.tuple #[.string S2, .int .i64 E2]) ∧ Below W.heap.size W w'))
    (HF1 : Hid (∀ W, Below w.heap.size w W → Calls Tryd.prog 16 #[v1] W fun e w' => e = .returned (.tuple #[.string S1, .int .i64 E1]) ∧ Below W.heap.size W w'))
    (HF2 : Hid (∀ W, Below w.heap.size w W → Calls Tryd.prog 16 #[v2] W fun e w' => e = .returned (.tuple #[.string S2, .int .i64 E2]) ∧ Below W.heap.size W w'))
    (HC : Hid (∀ W, Below w.heap.size w W → Calls Tryd.prog 10 #[v1, v2] W (IntPost n W)))
    (hcase : (n = -1 ∧ Op.bytesLess S1.toList S2.toList = true ∧ ¬ S1.toList = S2.toList ∧ Op.bytesLess S2.toList S1.toList = false) ∨ (n = 0 ∧ Op.bytesLess S1.toList S2.toList = false ∧ S1.toList = S2.toList) ∨ (n = 1 ∧ Op.bytesLess S1.toList S2.toList = false ∧ ¬ S1.toList = S2.toList ∧ Op.bytesLess S2.toList S1.toList = true)) (h : E1 = 0) (h2 : E2 = 0) :
    Calls Tryd.prog 7 #[v1, v2] w fun e w' => e = .returned (.bool true) ∧ Below w.heap.size w w' := by
  subst h h2
  have HCASE := Lib.hid hcase
  clear hcase
  go_enter Tryd.func7, Tryd.ntmps7
  go_wp2_with fail
  refine (HE1.out _ (Below.refl _ _)).mono ?_
  rintro e w1 ⟨rfl, hb1⟩
  go_wp2_with fail
  refine (HE2.out _ hb1).mono ?_
  rintro e w2 ⟨rfl, hb2⟩
  have hc2 := hb1.trans (hb2.mono hb1.size)
  go_wp2_with fail
  refine (HF1.out _ hc2).mono ?_
  rintro e w3 ⟨rfl, hb3⟩
  have hc3 := hc2.trans (hb3.mono hc2.size)
  go_wp2_with fail
  refine (HF2.out _ hc3).mono ?_
  rintro e w4 ⟨rfl, hb4⟩
  have hc4 := hc3.trans (hb4.mono hc3.size)
  go_wp2_with fail
  refine (HC.out _ hc4).mono ?_
  rintro e w5 ⟨rfl, hb5⟩
  have hc5 := hc4.trans (hb5.mono hc4.size)
  clear hb1 hb2 hb3 hb4 hb5 hc2 hc3 hc4
  rcases HCASE.out with ⟨rfl, a1, a2, a3⟩ | ⟨rfl, a1, a2⟩ | ⟨rfl, a1, a2, a3⟩
  · have a4 : (S1.toList == S2.toList) = false := by simpa using a2
    go_wp2
    go_ret
    exact ⟨by simp, hc5⟩
  · have a5 : S1 = S2 := by rw [ByteArray.toList_eq, ByteArray.toList_eq] at a2; exact ba_eq a2
    subst a5
    clear a2
    go_wp2
    go_ret
    exact ⟨by simp, hc5⟩
  · have a4 : (S1.toList == S2.toList) = false := by simpa using a2
    go_wp2
    go_ret
    exact ⟨by simp, hc5⟩
set_option maxRecDepth 100000 in
set_option maxHeartbeats 4000000 in
theorem order_one (v1 v2 : Value) (S1 S2 : ByteArray) (E1 E2 : Int) (w : World)
    (HE1 : Hid (∀ W, Below w.heap.size w W → Calls Tryd.prog 15 #[v1] W fun e w' => e = .returned (.tuple #[.string S1, .int .i64 E1]) ∧ Below W.heap.size W w'))
    (HE2 : Hid (∀ W, Below w.heap.size w W → Calls Tryd.prog 15 #[v2] W fun e w' => e = .returned (.tuple #[.string S2, .int .i64 E2]) ∧ Below W.heap.size W w'))
    (HF1 : Hid (∀ W, Below w.heap.size w W → Calls Tryd.prog 16 #[v1] W fun e w' => e = .returned (.tuple #[.string S1, .int .i64 E1]) ∧ Below W.heap.size W w'))
    (HF2 : Hid (∀ W, Below w.heap.size w W → Calls Tryd.prog 16 #[v2] W fun e w' => e = .returned (.tuple #[.string S2, .int .i64 E2]) ∧ Below W.heap.size W w'))
    (h : (E1 == 0) = false ∨ (E1 = 0 ∧ (E2 == 0) = false)) :
    Calls Tryd.prog 7 #[v1, v2] w fun e w' => e = .returned (.bool true) ∧ Below w.heap.size w w' := by
  have H := Lib.hid h
  clear h
  go_enter Tryd.func7, Tryd.ntmps7
  go_wp2_with fail
  refine (HE1.out _ (Below.refl _ _)).mono ?_
  rintro e w1 ⟨rfl, hb1⟩
  go_wp2_with fail
  refine (HE2.out _ hb1).mono ?_
  rintro e w2 ⟨rfl, hb2⟩
  have hc2 := hb1.trans (hb2.mono hb1.size)
  go_wp2_with fail
  refine (HF1.out _ hc2).mono ?_
  rintro e w3 ⟨rfl, hb3⟩
  have hc3 := hc2.trans (hb3.mono hc2.size)
  go_wp2_with fail
  refine (HF2.out _ hc3).mono ?_
  rintro e w4 ⟨rfl, hb4⟩
  have hc4 := hc3.trans (hb4.mono hc3.size)
  clear hb1 hb2 hb3 hb4 hc2 hc3
  rcases H.out with h | ⟨rfl, h⟩
  · have h' : (E1 != 0) = true := by simpa using h
    go_wp2
    go_ret
    exact ⟨rfl, hc4⟩
  · have h' : (E2 != 0) = true := by simpa using h
    go_wp2
    go_ret
    exact ⟨rfl, hc4⟩

theorem encE_zero (l : List Dat) (h : encE l = 0) : ∀ d ∈ l, rightD d = true := by
  unfold encE at h
  split at h
  · cases h
  · split at h
    · exact List.all_eq_true.mp (by assumption)
    · cases h

theorem rowOrder_any (v1 v2 : Value) (l1 l2 : List Dat) (w : World) (r1 : RowV w v1 l1) (r2 : RowV w v2 l2) (i1 : ∀ d ∈ l1, InI d) (i2 : ∀ d ∈ l2, InI d) (hT : Tabs w) :
    Calls Tryd.prog 7 #[v1, v2] w fun e w' => e = .returned (.bool true) ∧ Below w.heap.size w w' := by
  have HE1 : Hid (∀ W, Below w.heap.size w W → Calls Tryd.prog 15 #[v1] W (EncPost l1 W)) := fun W hb => encode_any v1 l1 W (r1.below hb) i1 (hT.below hb)
  have HE2 : Hid (∀ W, Below w.heap.size w W → Calls Tryd.prog 15 #[v2] W (EncPost l2 W)) := fun W hb => encode_any v2 l2 W (r2.below hb) i2 (hT.below hb)
  have HF1 : Hid (∀ W, Below w.heap.size w W → Calls Tryd.prog 16 #[v1] W (EncPost l1 W)) := fun W hb => refEncode_any v1 l1 W (r1.below hb) i1
  have HF2 : Hid (∀ W, Below w.heap.size w W → Calls Tryd.prog 16 #[v2] W (EncPost l2 W)) := fun W hb => refEncode_any v2 l2 W (r2.below hb) i2
  have HC : Hid (∀ W, Below w.heap.size w W → Calls Tryd.prog 10 #[v1, v2] W (IntPost (cmpR l1 l2) W)) := fun W hb => rowCompare_any v1 v2 l1 l2 W (r1.below hb) (r2.below hb)
  by_cases h1 : encE l1 = 0
  · by_cases h2 : encE l2 = 0
    · refine order_core v1 v2 _ _ _ _ (cmpR l1 l2) w HE1 HE2 HF1 HF2 HC ?_ h1 h2
      have a1 := encE_zero l1 h1
      have a2 := encE_zero l2 h2
      have hcb := cb_encR l1 l2 (fun d hd => ⟨a1 d hd, i1 d hd⟩) (fun d hd => ⟨a2 d hd, i2 d hd⟩)
      have hcb2 := cb_encR l2 l1 (fun d hd => ⟨a2 d hd, i2 d hd⟩) (fun d hd => ⟨a1 d hd, i1 d hd⟩)
      have hrange := cmpR_range l1 l2
      have hanti : cmpR l2 l1 = - cmpR l1 l2 := by rw [← hcb, ← hcb2]; exact cb_anti _ _
      simp only [ByteArray.toList_eq, encS, if_pos h1, if_pos h2, bytesLess_cb, hcb, hcb2, hanti]
      have he : encR l1 = encR l2 → cmpR l1 l2 = 0 := fun e => by rw [← hcb, e]; exact cb_self _
      have he2 : cmpR l1 l2 = 0 → encR l1 = encR l2 := fun e => cb_eq _ _ (by rw [hcb]; exact e)
      rcases (show cmpR l1 l2 = -1 ∨ cmpR l1 l2 = 0 ∨ cmpR l1 l2 = 1 by omega) with h | h | h
      · exact .inl ⟨h, by rw [h]; rfl, fun e => by have := he e; omega, by rw [h]; rfl⟩
      · exact .inr (.inl ⟨h, by rw [h]; rfl, he2 h⟩)
      · exact .inr (.inr ⟨h, by rw [h]; rfl, fun e => by have := he e; omega, by rw [h]; rfl⟩)
    · exact order_one v1 v2 _ _ _ _ w HE1 HE2 HF1 HF2 (.inr ⟨h1, by simpa using h2⟩)
  · exact order_one v1 v2 _ _ _ _ w HE1 HE2 HF1 HF2 (.inl (by simpa using h1))

end Go.Proofs.YtoikbdgbhgokaaaDoor
