/-
  The contract of datum's Print: a value's literal, or nothing where it may not be.
-/
import Derived.Test.YtoikbdgbhgokaaaDoorPrintB
import Derived.Test.YtoikbdgbhgokaaaDoorValid
import Derived.Test.YtoikbdgbhgokaaaDoorAmt
import Derived.Test.YtoikbdgbhgokaaaDoorRowPure
namespace Go.Proofs.YtoikbdgbhgokaaaDoor
open Go.RowKit

/-- The variable of internal/bytealg that tells how long a short text is holds some number. -/
def MaxV (w : World) : Prop := 2 < w.heap.size ∧ ∃ m : Int, w.cell? ⟨2, 0, none⟩ = some (.int .i64 m)

theorem MaxV.below {w w' : World} (h : MaxV w) (hb : Below w.heap.size w w') : MaxV w' := by
  obtain ⟨h1, m, hm⟩ := h
  exact ⟨Nat.lt_of_lt_of_le h1 hb.size, m, by rw [hb.cell (p := ⟨2, 0, none⟩) h1]; exact hm⟩

/-- What Print rests on. -/
def Lits (w : World) : Prop := Tabs w ∧ Pow10 w ∧ MaxV w

theorem Lits.below {w w' : World} (h : Lits w) (hb : Below w.heap.size w w') : Lits w' := ⟨h.1.below hb, h.2.1.below hb, h.2.2.below hb⟩

theorem printBool_any (b : Bool) (w : World) :
    Calls Tryd.prog 38 #[.bool b] w (StrPost (if b then [84, 82, 85, 69] else [70, 65, 76, 83, 69]) w) := by
  cases b
  all_goals
    go_enter Tryd.func38, Tryd.ntmps38
    go_wp2
    go_ret
    exact ⟨rfl, Below.refl _ _⟩

/-- The literal of any value. -/
def litD (k i : Int) (s : ByteArray) : List UInt8 := if rightD ⟨k, i, s⟩ then litL k i s.data.toList else []

theorem replaceAll_any (s : ByteArray) (w : World) (hs : s.size ≤ 1000) (hM : MaxV w) :
    Calls Tryd.prog 41 #[.string s, .string ⟨#[39]⟩, .string ⟨#[39, 39]⟩] w (StrPost (quoteL s.data.toList) w) := by
  obtain ⟨_, m, hm⟩ := hM
  have hc : Lib.countB s ⟨#[39]⟩ ≤ s.size := Lib.countB_le _ (by decide) s.size s (Nat.le_refl _)
  have h2 : (⟨#[39, 39]⟩ : ByteArray).size = 2 := rfl
  refine (Tryd.strings_ReplaceAll s ⟨#[39]⟩ ⟨#[39, 39]⟩ m w (by omega) hm (by decide) (by rw [h2]; omega)).mono fun _ _ ⟨he, hb⟩ => ⟨?_, hb⟩
  rw [he]
  show Ending.returned (.string ⟨(Lib.replaceAll s.data.toList [39] [39, 39]).toArray⟩) = _
  rw [replaceAll_quote]

set_option maxRecDepth 100000 in
theorem print_no (k i : Int) (s : ByteArray) (w : World) (HR : Hid (∀ w' : World, Below w.heap.size w w' → Calls Tryd.prog 28 #[.agg #[.int .i64 k, .int .i64 i, .string s]] w' (RightPost false w'))) :
    Calls Tryd.prog 25 #[.agg #[.int .i64 k, .int .i64 i, .string s]] w (StrPost [] w) := by
  have b0 : Below w.heap.size w (w.alloc (.cells #[.int .i64 k, .int .i64 i, .string s] 37)) := (Below.refl _ w).alloc (Nat.le_refl _) _
  go_enter Tryd.func25, Tryd.ntmps25
  go_wp2_with (go_at_call 28; (with_reducible refine (HR.out _ b0).mono ?_); rintro e w1 ⟨rfl, hb⟩)
  go_ret
  exact ⟨rfl, b0.trans (hb.mono b0.size)⟩


set_option maxHeartbeats 2000000 in
set_option maxRecDepth 100000 in
theorem print_null (i : Int) (s : ByteArray) (w : World) (HR : Hid (∀ w' : World, Below w.heap.size w w' → Calls Tryd.prog 28 #[.agg #[.int .i64 0, .int .i64 i, .string s]] w' (RightPost true w'))) :
    Calls Tryd.prog 25 #[.agg #[.int .i64 0, .int .i64 i, .string s]] w (StrPost ([78, 85, 76, 76]) w) := by
  have b0 : Below w.heap.size w (w.alloc (.cells #[.int .i64 0, .int .i64 i, .string s] 37)) := (Below.refl _ w).alloc (Nat.le_refl _) _
  go_enter Tryd.func25, Tryd.ntmps25
  go_wp2_with (go_at_call 28; (with_reducible refine (HR.out _ b0).mono ?_); rintro e w1 ⟨rfl, hb⟩; have x0 := Blk.below (b := w.heap.size) (cs := #[.int .i64 0, .int .i64 i, .string s]) (t := 37) (Blk.at rfl) hb; have y0 := x0.cell 0; have y1 := x0.cell 1; have y2 := x0.cell 2; simp only [List.getElem?_toArray, List.getElem?_cons_zero, List.getElem?_cons_succ] at y0 y1 y2; have bw := b0.trans (hb.mono b0.size); clear x0 hb b0)
  go_ret
  exact ⟨rfl, bw⟩

set_option maxHeartbeats 2000000 in
set_option maxRecDepth 100000 in
theorem print_bool (i : Int) (s : ByteArray) (w : World) (b : Bool) (hb : (i == 1) = b) (HR : Hid (∀ w' : World, Below w.heap.size w w' → Calls Tryd.prog 28 #[.agg #[.int .i64 1, .int .i64 i, .string s]] w' (RightPost true w'))) :
    Calls Tryd.prog 25 #[.agg #[.int .i64 1, .int .i64 i, .string s]] w (StrPost (if b then [84, 82, 85, 69] else [70, 65, 76, 83, 69]) w) := by
  have b0 : Below w.heap.size w (w.alloc (.cells #[.int .i64 1, .int .i64 i, .string s] 37)) := (Below.refl _ w).alloc (Nat.le_refl _) _
  go_enter Tryd.func25, Tryd.ntmps25
  go_wp2_with (go_at_call 28; (with_reducible refine (HR.out _ b0).mono ?_); rintro e w1 ⟨rfl, hb⟩; have x0 := Blk.below (b := w.heap.size) (cs := #[.int .i64 1, .int .i64 i, .string s]) (t := 37) (Blk.at rfl) hb; have y0 := x0.cell 0; have y1 := x0.cell 1; have y2 := x0.cell 2; simp only [List.getElem?_toArray, List.getElem?_cons_zero, List.getElem?_cons_succ] at y0 y1 y2; have bw := b0.trans (hb.mono b0.size); clear x0 hb b0)
  all_goals
    refine (printBool_any _ _).mono ?_
    rintro e w2 ⟨rfl, hb2⟩
    go_wp2
    go_ret
    exact ⟨rfl, bw.trans (hb2.mono bw.size)⟩

set_option maxHeartbeats 2000000 in
set_option maxRecDepth 100000 in
theorem print_int (i : Int) (s : ByteArray) (w : World) (hi : -9223372036854775808 ≤ i ∧ i ≤ 9223372036854775807) (hT : Hid (Pow10 w)) (HR : Hid (∀ w' : World, Below w.heap.size w w' → Calls Tryd.prog 28 #[.agg #[.int .i64 2, .int .i64 i, .string s]] w' (RightPost true w'))) :
    Calls Tryd.prog 25 #[.agg #[.int .i64 2, .int .i64 i, .string s]] w (StrPost (Lib.itoa i) w) := by
  have b0 : Below w.heap.size w (w.alloc (.cells #[.int .i64 2, .int .i64 i, .string s] 37)) := (Below.refl _ w).alloc (Nat.le_refl _) _
  go_enter Tryd.func25, Tryd.ntmps25
  go_wp2_with (go_at_call 28; (with_reducible refine (HR.out _ b0).mono ?_); rintro e w1 ⟨rfl, hb⟩; have x0 := Blk.below (b := w.heap.size) (cs := #[.int .i64 2, .int .i64 i, .string s]) (t := 37) (Blk.at rfl) hb; have y0 := x0.cell 0; have y1 := x0.cell 1; have y2 := x0.cell 2; simp only [List.getElem?_toArray, List.getElem?_cons_zero, List.getElem?_cons_succ] at y0 y1 y2; have bw := b0.trans (hb.mono b0.size); clear x0 hb b0)
  refine (formatInt_any i hi _ (hT.out.below bw)).mono ?_
  rintro e w2 ⟨rfl, hb2⟩
  go_wp2
  go_ret
  exact ⟨rfl, bw.trans (hb2.mono bw.size)⟩

set_option maxHeartbeats 2000000 in
set_option maxRecDepth 100000 in
theorem print_dec (i : Int) (s : ByteArray) (w : World) (hi : -9223372036854775808 ≤ i ∧ i ≤ 9223372036854775807) (hT : Hid (Pow10 w)) (HR : Hid (∀ w' : World, Below w.heap.size w w' → Calls Tryd.prog 28 #[.agg #[.int .i64 3, .int .i64 i, .string s]] w' (RightPost true w'))) :
    Calls Tryd.prog 25 #[.agg #[.int .i64 3, .int .i64 i, .string s]] w (StrPost (decL i) w) := by
  have b0 : Below w.heap.size w (w.alloc (.cells #[.int .i64 3, .int .i64 i, .string s] 37)) := (Below.refl _ w).alloc (Nat.le_refl _) _
  go_enter Tryd.func25, Tryd.ntmps25
  go_wp2_with (go_at_call 28; (with_reducible refine (HR.out _ b0).mono ?_); rintro e w1 ⟨rfl, hb⟩; have x0 := Blk.below (b := w.heap.size) (cs := #[.int .i64 3, .int .i64 i, .string s]) (t := 37) (Blk.at rfl) hb; have y0 := x0.cell 0; have y1 := x0.cell 1; have y2 := x0.cell 2; simp only [List.getElem?_toArray, List.getElem?_cons_zero, List.getElem?_cons_succ] at y0 y1 y2; have bw := b0.trans (hb.mono b0.size); clear x0 hb b0)
  refine (printDec_any i _ hi (hT.out.below bw)).mono ?_
  rintro e w2 ⟨rfl, hb2⟩
  go_wp2
  go_ret
  exact ⟨rfl, bw.trans (hb2.mono bw.size)⟩

set_option maxHeartbeats 2000000 in
set_option maxRecDepth 100000 in
theorem print_text (i : Int) (s : ByteArray) (w : World) (hs : s.size ≤ 1000) (hM : Hid (MaxV w)) (HR : Hid (∀ w' : World, Below w.heap.size w w' → Calls Tryd.prog 28 #[.agg #[.int .i64 4, .int .i64 i, .string s]] w' (RightPost true w'))) :
    Calls Tryd.prog 25 #[.agg #[.int .i64 4, .int .i64 i, .string s]] w (StrPost (39 :: (quoteL s.data.toList ++ [39])) w) := by
  have hl : (quoteL s.data.toList).length ≤ 2000 := by have h1 := quoteL_len s.data.toList; have h2 : s.data.toList.length = s.size := Array.length_toList; omega
  have b0 : Below w.heap.size w (w.alloc (.cells #[.int .i64 4, .int .i64 i, .string s] 37)) := (Below.refl _ w).alloc (Nat.le_refl _) _
  go_enter Tryd.func25, Tryd.ntmps25
  go_wp2_with (go_at_call 28; (with_reducible refine (HR.out _ b0).mono ?_); rintro e w1 ⟨rfl, hb⟩; have x0 := Blk.below (b := w.heap.size) (cs := #[.int .i64 4, .int .i64 i, .string s]) (t := 37) (Blk.at rfl) hb; have y0 := x0.cell 0; have y1 := x0.cell 1; have y2 := x0.cell 2; simp only [List.getElem?_toArray, List.getElem?_cons_zero, List.getElem?_cons_succ] at y0 y1 y2; have bw := b0.trans (hb.mono b0.size); clear x0 hb b0)
  refine (replaceAll_any s _ hs (hM.out.below bw)).mono ?_
  rintro e w2 ⟨rfl, hb2⟩
  generalize quoteL s.data.toList = l at *
  go_wp2
  go_ret
  exact ⟨str_ret _ _ (by simp [ByteArray.data_append]), bw.trans (hb2.mono bw.size)⟩

set_option maxHeartbeats 2000000 in
set_option maxRecDepth 100000 in
theorem print_bytes (i : Int) (s : ByteArray) (w : World) (hs : s.size ≤ 1000) (HR : Hid (∀ w' : World, Below w.heap.size w w' → Calls Tryd.prog 28 #[.agg #[.int .i64 5, .int .i64 i, .string s]] w' (RightPost true w'))) :
    Calls Tryd.prog 25 #[.agg #[.int .i64 5, .int .i64 i, .string s]] w (StrPost (120 :: 39 :: (hexL s.data.toList ++ [39])) w) := by
  have b0 : Below w.heap.size w (w.alloc (.cells #[.int .i64 5, .int .i64 i, .string s] 37)) := (Below.refl _ w).alloc (Nat.le_refl _) _
  go_enter Tryd.func25, Tryd.ntmps25
  go_wp2_with (go_at_call 28; (with_reducible refine (HR.out _ b0).mono ?_); rintro e w1 ⟨rfl, hb⟩; have x0 := Blk.below (b := w.heap.size) (cs := #[.int .i64 5, .int .i64 i, .string s]) (t := 37) (Blk.at rfl) hb; have y0 := x0.cell 0; have y1 := x0.cell 1; have y2 := x0.cell 2; simp only [List.getElem?_toArray, List.getElem?_cons_zero, List.getElem?_cons_succ] at y0 y1 y2; have bw := b0.trans (hb.mono b0.size); clear x0 hb b0)
  refine (printBytes_any s _ hs).mono ?_
  rintro e w2 ⟨rfl, hb2⟩
  generalize 120 :: 39 :: (hexL s.data.toList ++ [39]) = l at *
  go_wp2
  go_ret
  exact ⟨rfl, bw.trans (hb2.mono bw.size)⟩

theorem print_any (k i : Int) (s : ByteArray) (w : World) (hi : -9223372036854775808 ≤ i ∧ i ≤ 9223372036854775807) (hL : Lits w) :
    Calls Tryd.prog 25 #[.agg #[.int .i64 k, .int .i64 i, .string s]] w (StrPost (litD k i s) w) := by
  have HR : Hid (∀ w' : World, Below w.heap.size w w' → Calls Tryd.prog 28 #[.agg #[.int .i64 k, .int .i64 i, .string s]] w' (RightPost (rightD ⟨k, i, s⟩) w')) := fun w' hb => right_any k i s w' (hL.1.below hb)
  unfold litD
  cases hr : rightD ⟨k, i, s⟩
  · rw [hr] at HR
    exact print_no k i s w HR
  · rw [hr] at HR
    have hs := rightD_size ⟨k, i, s⟩ hr
    have hk := rightD_kind ⟨k, i, s⟩ hr
    simp only [] at hs hk
    rw [if_pos rfl]
    unfold litL
    have hcase : k = 0 ∨ k = 1 ∨ k = 2 ∨ k = 3 ∨ k = 4 ∨ k = 5 := by omega
    rcases hcase with rfl | rfl | rfl | rfl | rfl | rfl
    · exact print_null i s w HR
    · have := print_bool i s w (i == 1) rfl HR
      simpa using this
    · exact print_int i s w hi (Lib.hid hL.2.1) HR
    · exact print_dec i s w hi (Lib.hid hL.2.1) HR
    · exact print_text i s w hs (Lib.hid hL.2.2) HR
    · exact print_bytes i s w hs HR

end Go.Proofs.YtoikbdgbhgokaaaDoor
