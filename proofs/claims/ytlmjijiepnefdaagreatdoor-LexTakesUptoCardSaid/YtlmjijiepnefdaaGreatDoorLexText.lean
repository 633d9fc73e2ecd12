/-
  The contract of lex's text.
-/
import Derived.Test.YtlmjijiepnefdaaGreatDoorLexTxt
import Derived.Test.YtlmjijiepnefdaaGreatDoorLexTok
namespace Go.Proofs.YtlmjijiepnefdaaGreatDoor
open Go.RowKit

theorem textS_le (e : Bool) (l : List UInt8) : (textS e l).1 ≤ l.length ∧ (e = false → (textS e l).2 = 0 → 1 ≤ (textS e l).1) := by
  induction hn : l.length using Nat.strongRecOn generalizing l e with
  | _ n ih =>
    by_cases h : l = []
    · subst h; rw [textS_nil]; refine ⟨by simp, fun he h2 => ?_⟩; subst he; simp at h2
    · have hw := Lib.decodeL_width l
      have hle := Lib.decodeL_le l h
      have hd : (l.drop (Lib.decodeL l).2).length = l.length - (Lib.decodeL l).2 := List.length_drop
      by_cases h1 : (Lib.decodeL l).1 = 39
      · rw [textS_quote h h1]
        have := (ih _ (by omega) (!e) (l.drop (Lib.decodeL l).2) rfl).1
        exact ⟨by unfold shiftR; omega, fun _ _ => by unfold shiftR; omega⟩
      · cases e
        · by_cases h2 : (Lib.decodeL l).1 = 65533 ∧ (Lib.decodeL l).2 = 1
          · rw [textS_bad h h2.1 h2.2]; exact ⟨by simp, fun _ h3 => by simp at h3⟩
          · rw [textS_go h h1 h2]
            have := (ih _ (by omega) false (l.drop (Lib.decodeL l).2) rfl).1
            exact ⟨by unfold shiftR; omega, fun _ _ => by unfold shiftR; omega⟩
        · rw [textS_end h h1]; exact ⟨by simp, fun h3 => by cases h3⟩

theorem tsR_le (l : List UInt8) (h : 1 ≤ l.length) : (tsR l).1 ≤ l.length ∧ ((tsR l).2 = 0 → 2 ≤ (tsR l).1) := by
  have := textS_le false (l.drop 1)
  rw [List.length_drop] at this
  unfold tsR
  split
  · exact ⟨by simp, fun h3 => by simp at h3⟩
  · refine ⟨by simp only []; omega, fun h3 => ?_⟩
    have := this.2 rfl h3
    simp only []; omega

/-- A text's value. -/
def txtV (l : List UInt8) : List UInt8 := Lib.replaceAll ((l.drop 1).take ((tsR l).1 - 2)) [39, 39] [39]
def txtR (l : List UInt8) : Tok × Nat × Int :=
  if (tsR l).2 = 0 then (if 1000 < (txtV l).length then (Tok.zero, 0, 2) else (⟨3, [], 4, 0, txtV l⟩, (tsR l).1, 0))
  else (Tok.zero, (tsR l).1, (tsR l).2)

/-- The variable of internal/bytealg that tells how long a short text is holds some number. -/
def MaxV (w : World) : Prop := 6 < w.heap.size ∧ ∃ m : Int, w.cell? ⟨6, 0, none⟩ = some (.int .i64 m)
theorem MaxV.below {w w' : World} (h : MaxV w) (hb : Below w.heap.size w w') : MaxV w' := by
  obtain ⟨h1, m, hm⟩ := h
  exact ⟨Nat.lt_of_lt_of_le h1 hb.size, m, by rw [hb.cell (p := ⟨6, 0, none⟩) h1]; exact hm⟩

/-- A text comes back; memory of its own alone is made. -/
def StrPost (l : List UInt8) (w : World) (e : Ending) (w' : World) : Prop := e = .returned (.string ⟨l.toArray⟩) ∧ Below w.heap.size w w'

theorem replaceAll_any (s : ByteArray) (w : World) (hs : s.size ≤ 4000) (hM : MaxV w) :
    Calls Tryz.prog 61 #[.string s, .string ⟨#[39, 39]⟩, .string ⟨#[39]⟩] w (StrPost (Lib.replaceAll s.data.toList [39, 39] [39]) w) := by
  obtain ⟨_, m, hm⟩ := hM
  have hc : Lib.countB s ⟨#[39, 39]⟩ ≤ s.size := Lib.countB_le _ (by decide) s.size s (Nat.le_refl _)
  have h2 : (⟨#[39]⟩ : ByteArray).size = 1 := rfl
  exact Tryz.strings_ReplaceAll s ⟨#[39, 39]⟩ ⟨#[39]⟩ m w (by omega) hm (by decide) (by rw [h2]; omega)

set_option maxHeartbeats 4000000 in
set_option maxRecDepth 100000 in
theorem text_any (s : ByteArray) (w : World) (h0 : 1 ≤ s.size) (hs : s.size ≤ 4000) (hM : MaxV w) :
    Calls Tryz.prog 39 #[.string s] w (TokPost (txtR s.data.toList) w) := by
  have b0 : Below w.heap.size w (w.alloc (.cells (cellsT Tok.zero 0) 33)) := (Below.refl _ _).alloc (Nat.le_refl _) _
  have HB := Lib.hid (tsR_le s.data.toList (by rw [size_list]; exact h0))
  rw [size_list] at HB
  have HM := Lib.hid hM
  have hV : Lib.replaceAll (s.extract 1 ((tsR s.data.toList).1 - 1)).data.toList [39, 39] [39] = txtV s.data.toList := by
    unfold txtV
    rw [Lib.extract_data, show (tsR s.data.toList).1 - 1 - 1 = (tsR s.data.toList).1 - 2 by omega]
  have HV := Lib.hid hV
  have HR : Hid (txtR s.data.toList = if (tsR s.data.toList).2 = 0 then (if 1000 < (txtV s.data.toList).length then (Tok.zero, 0, 2) else (⟨3, [], 4, 0, txtV s.data.toList⟩, (tsR s.data.toList).1, 0)) else (Tok.zero, (tsR s.data.toList).1, (tsR s.data.toList).2)) := rfl
  clear hV hM
  go_enter Tryz.func39, Tryz.ntmps39
  go_wp2_with fail
  refine (textSize_any s _ h0 hs).mono ?_
  rintro e w1 ⟨rfl, b1⟩
  have bX := Blk.below (b := w.heap.size) (cs := cellsT Tok.zero 0) (t := 33) (Blk.at rfl) b1
  have hb := b0.trans (b1.mono b0.size)
  clear b0 b1
  generalize (tsR s.data.toList).1 = n at *
  generalize (tsR s.data.toList).2 = c at *
  generalize txtV s.data.toList = v at *
  by_cases hc : c = 0
  · have HC := Lib.hid hc
    subst hc
    obtain ⟨h1, h2⟩ := HB.out
    have h3 := h2 rfl
    clear h2 HB
    go_wp2_with fail
    have hex : (s.extract 1 (n - 1)).size ≤ 4000 := by
      have := congrArg List.length (Lib.extract_data s 1 (n - 1))
      rw [size_list, List.length_take, List.length_drop, size_list] at this; omega
    refine (replaceAll_any _ _ hex (HM.out.below hb)).mono ?_
    rintro e w2 ⟨rfl, b2⟩
    rw [HV.out]
    replace bX := bX.below b2
    replace hb := hb.trans (b2.mono hb.size)
    clear b2 hex
    have hsz : (⟨v.toArray⟩ : ByteArray).size = v.length := by simp [ByteArray.size]
    by_cases hl : 1000 < v.length
    · have HRR : Hid (txtR s.data.toList = (Tok.zero, 0, 2)) := by unfold Hid; rw [HR.out, if_pos trivial, if_pos hl]
      have hl2 : (1000 : Int) < v.length := by omega
      have HS := Lib.hid hsz
      clear hsz HR
      have y0 := bX.cell 0
      have y1 := bX.cell 1
      have y2 := bX.cell 2
      have y3 := bX.cell 3
      have y4 := bX.cell 4
      have y5 := bX.cell 5
      simp only [cellsT, Tok.zero, List.getElem?_toArray, List.getElem?_cons_zero, List.getElem?_cons_succ] at y0 y1 y2 y3 y4 y5
      have f0 := bX.frozen 0
      have f1 := bX.frozen 1
      have f2 := bX.frozen 2
      have f3 := bX.frozen 3
      have f4 := bX.frozen 4
      have f5 := bX.frozen 5
      clear bX
      go_wp2_with fail
      rw [HRR.out]
      refine bodyPost_ret ?_ rfl ⟨rfl, ?_⟩
      · simp [results, Tryz.results39, go_sem, cellsT, Tok.zero, y0, y1, y2, y3, y4, y5]
      · exact (((((hb.setCell (Nat.le_refl _) _).setCell (Nat.le_refl _) _).setCell (Nat.le_refl _) _).setCell (Nat.le_refl _) _).setCell (Nat.le_refl _) _).setCell (Nat.le_refl _) _
    · have HRR : Hid (txtR s.data.toList = (⟨3, [], 4, 0, v⟩, n, 0)) := by unfold Hid; rw [HR.out, if_pos trivial, if_neg hl]
      have hl2 : (v.length : Int) ≤ 1000 := by omega
      have hc4 : (⟨v.toArray⟩ : ByteArray).size ≤ 4000 := by omega
      have HS := Lib.hid hsz
      clear hsz HR
      go_wp2_with fail
      refine (clone_any _ _ hc4).mono ?_
      rintro e w3 ⟨rfl, b3⟩
      replace bX := bX.below b3
      replace hb := hb.trans (b3.mono hb.size)
      clear b3
      go_wp2_with fail
      refine (literal_any _ _ _).mono ?_
      rintro e w4 ⟨rfl, b4⟩
      replace bX := bX.below b4
      replace hb := hb.trans (b4.mono hb.size)
      clear b4
      have y0 := bX.cell 0
      have y1 := bX.cell 1
      have y2 := bX.cell 2
      have y3 := bX.cell 3
      have y4 := bX.cell 4
      have y5 := bX.cell 5
      simp only [cellsT, Tok.zero, List.getElem?_toArray, List.getElem?_cons_zero, List.getElem?_cons_succ] at y0 y1 y2 y3 y4 y5
      have f0 := bX.frozen 0
      have f1 := bX.frozen 1
      have f2 := bX.frozen 2
      have f3 := bX.frozen 3
      have f4 := bX.frozen 4
      have f5 := bX.frozen 5
      clear bX
      go_wp2_with fail
      rw [HRR.out]
      refine bodyPost_ret ?_ rfl ⟨rfl, ?_⟩
      · simp [results, Tryz.results39, go_sem, cellsT, y0, y1, y2, y3, y4, y5]
      · exact (((((hb.setCell (Nat.le_refl _) _).setCell (Nat.le_refl _) _).setCell (Nat.le_refl _) _).setCell (Nat.le_refl _) _).setCell (Nat.le_refl _) _).setCell (Nat.le_refl _) _
  · have hcb : (c == 0) = false := by simpa using hc
    have hcb2 : (c != 0) = true := by simpa using hc
    have HRR : Hid (txtR s.data.toList = (Tok.zero, n, c)) := by unfold Hid; rw [HR.out, if_neg hc]
    clear hc HR HB
    have y0 := bX.cell 0
    have y1 := bX.cell 1
    have y2 := bX.cell 2
    have y3 := bX.cell 3
    have y4 := bX.cell 4
    have y5 := bX.cell 5
    simp only [cellsT, Tok.zero, List.getElem?_toArray, List.getElem?_cons_zero, List.getElem?_cons_succ] at y0 y1 y2 y3 y4 y5
    have f0 := bX.frozen 0
    have f1 := bX.frozen 1
    have f2 := bX.frozen 2
    have f3 := bX.frozen 3
    have f4 := bX.frozen 4
    have f5 := bX.frozen 5
    clear bX
    go_wp2_with fail
    rw [HRR.out]
    refine bodyPost_ret ?_ rfl ⟨rfl, ?_⟩
    · simp [results, Tryz.results39, go_sem, cellsT, Tok.zero, y0, y1, y2, y3, y4, y5]
    · exact (((((hb.setCell (Nat.le_refl _) _).setCell (Nat.le_refl _) _).setCell (Nat.le_refl _) _).setCell (Nat.le_refl _) _).setCell (Nat.le_refl _) _).setCell (Nat.le_refl _) _

end Go.Proofs.YtlmjijiepnefdaaGreatDoor
