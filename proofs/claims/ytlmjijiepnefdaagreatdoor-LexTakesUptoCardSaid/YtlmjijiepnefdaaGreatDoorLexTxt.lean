/-
  The contract of lex's textSize: how many bytes a TEXT has, or what is wrong with it, and where.
-/
import Derived.Test.YtlmjijiepnefdaaGreatDoorLexGap
import Derived.Lib.TrimUEq
import Derived.Lib.TrimU
import Derived.Lib.MapLaws
namespace Go.Proofs.YtlmjijiepnefdaaGreatDoor
open Go.RowKit

def shiftR (n : Nat) (r : Nat × Int) : Nat × Int := (n + r.1, r.2)
theorem shift_shift (n m : Nat) (r : Nat × Int) : shiftR n (shiftR m r) = shiftR (n + m) r := by unfold shiftR; rw [Nat.add_assoc]
theorem shift_zero (r : Nat × Int) : shiftR 0 r = r := by unfold shiftR; rw [Nat.zero_add]

/-- What stands behind a text's first apostrophe, rune by rune: where the text ends (0), where no rune is (40); or it has no end (41). -/
def textS (e : Bool) (l : List UInt8) : Nat × Int :=
  if _h : l = [] then (0, if e then 0 else 41)
  else if (Lib.decodeL l).1 = 39 then shiftR (Lib.decodeL l).2 (textS (!e) (l.drop (Lib.decodeL l).2))
  else if e then (0, 0)
  else if (Lib.decodeL l).1 = 65533 ∧ (Lib.decodeL l).2 = 1 then (0, 40)
  else shiftR (Lib.decodeL l).2 (textS false (l.drop (Lib.decodeL l).2))
termination_by l.length
decreasing_by
  all_goals
    have h1 := Lib.decodeL_width l
    have h2 : 0 < l.length := List.length_pos_iff.mpr _h
    rw [List.length_drop]; omega

theorem textS_nil (e : Bool) : textS e [] = (0, if e then 0 else 41) := by rw [textS, dif_pos rfl]
theorem textS_quote {e : Bool} {l : List UInt8} (h : l ≠ []) (h1 : (Lib.decodeL l).1 = 39) : textS e l = shiftR (Lib.decodeL l).2 (textS (!e) (l.drop (Lib.decodeL l).2)) := by
  rw [textS, dif_neg h, if_pos h1]
theorem textS_end {l : List UInt8} (h : l ≠ []) (h1 : (Lib.decodeL l).1 ≠ 39) : textS true l = (0, 0) := by
  rw [textS, dif_neg h, if_neg h1, if_pos rfl]
theorem textS_bad {l : List UInt8} (h : l ≠ []) (h1 : (Lib.decodeL l).1 = 65533) (h2 : (Lib.decodeL l).2 = 1) : textS false l = (0, 40) := by
  rw [textS, dif_neg h, if_neg (by omega), if_neg (by simp), if_pos ⟨h1, h2⟩]
theorem textS_go {l : List UInt8} (h : l ≠ []) (h1 : (Lib.decodeL l).1 ≠ 39) (h2 : ¬ ((Lib.decodeL l).1 = 65533 ∧ (Lib.decodeL l).2 = 1)) : textS false l = shiftR (Lib.decodeL l).2 (textS false (l.drop (Lib.decodeL l).2)) := by
  rw [textS, dif_neg h, if_neg h1, if_neg (by simp), if_neg h2]

/-- How many bytes a TEXT has, and an error. -/
def tsR (l : List UInt8) : Nat × Int := if (textS false (l.drop 1)).2 = 41 then (0, 41) else (1 + (textS false (l.drop 1)).1, (textS false (l.drop 1)).2)

theorem prefix_take (l p : List UInt8) : Lib.hasPrefix l p = decide (l.take p.length = p) := by
  unfold Lib.hasPrefix
  rw [Bool.eq_iff_iff, List.isPrefixOf_iff_prefix, decide_eq_true_eq, List.prefix_iff_eq_take]
  exact ⟨fun h => h.symm, fun h => h.symm⟩

/-- A rune that reads as U+FFFD is that one's three bytes, or one byte wide. -/
theorem fffd_or (t : ByteArray) (pos : Nat) (h : pos < t.size) (hr : (Utf8.decode t pos).1 = 65533) :
    ((Utf8.decode t pos).2 = 1 ∧ Lib.hasPrefix (t.data.toList.drop pos) [239, 191, 189] = false) ∨ ((Utf8.decode t pos).2 = 3 ∧ Lib.hasPrefix (t.data.toList.drop pos) [239, 191, 189] = true) := by
  have hx : (t.extract pos (pos + 3)).data.toList = (t.data.toList.drop pos).take 3 := by rw [Lib.extract_data]; congr 1; omega
  rcases rune_err t pos h hr with ⟨h1, h2⟩ | ⟨h1, h2, h3⟩
  · left
    refine ⟨h1, ?_⟩
    rw [prefix_take, decide_eq_false_iff_not]
    intro e
    rcases h2 with h2 | ⟨h2, h3⟩
    · have := congrArg List.length e
      rw [List.length_take, List.length_drop, size_list] at this
      simp at this; omega
    · exact h3 (ba_eq (by rw [hx]; exact e))
  · right
    refine ⟨h1, ?_⟩
    rw [prefix_take, decide_eq_true_eq]
    have hy : (t.extract pos (pos + 3)).data.toList = [239, 191, 189] := by rw [h3]; rfl
    rw [hx] at hy
    exact hy

def TsPost (r : Nat × Int) (w : World) (e : Ending) (w' : World) : Prop := e = .returned (.tuple #[.int .i64 (r.1 : Int), .int .i64 r.2]) ∧ Below w.heap.size w w'

theorem ne_nil (t : ByteArray) (pos : Nat) (h : pos < t.size) : t.data.toList.drop pos ≠ [] := by
  intro e
  have := congrArg List.length e
  rw [List.length_drop, size_list] at this
  simp at this; omega

set_option maxHeartbeats 4000000 in
set_option maxRecDepth 100000 in
theorem textSize_any (s : ByteArray) (w : World) (h0 : 1 ≤ s.size) (hs : s.size ≤ 4000) :
    Calls Tryz.prog 60 #[.string s] w (TsPost (tsR s.data.toList) w) := by
  have ht : (s.extract 1 s.size).data.toList = s.data.toList.drop 1 := Lib.extract_to_end s 1
  have hsz : (s.extract 1 s.size).size + 1 = s.size := by rw [ext_size]; omega
  have hpre : ∀ pos, (s.extract (1 + pos) s.size).data.toList = (s.extract 1 s.size).data.toList.drop pos := fun pos => by rw [Lib.extract_to_end, ht, List.drop_drop]
  have HR : Hid (tsR s.data.toList = if (textS false (s.extract 1 s.size).data.toList).2 = 41 then (0, 41) else (1 + (textS false (s.extract 1 s.size).data.toList).1, (textS false (s.extract 1 s.size).data.toList).2)) := by unfold Hid; rw [ht]; rfl
  have HP := Lib.hid hpre
  have HZ := Lib.hid hsz
  clear ht hpre hsz
  go_enter Tryz.func60, Tryz.ntmps60
  go_wp2_with fail
  generalize s.extract 1 s.size = t at *
  go_loopw [4, 5, 6] (fun v _ _ wr => ∃ (pos : Nat) (e : Bool), v = .bool e ∧ wr = w.iter t pos ∧ pos ≤ t.size ∧ Hid (textS false t.data.toList = shiftR pos (textS e (t.data.toList.drop pos)))) (fun _ _ _ wr => t.size - wr.iterPos w.heap.size)
  case atStart => exact ⟨0, false, rfl, rfl, Nat.zero_le _, by unfold Hid; rw [shift_zero, List.drop_zero]⟩
  case round =>
    obtain ⟨pos, e, rfl, rfl, hpos, HT⟩ := hrel
    by_cases hp : pos < t.size
    · have hle : 1 + pos ≤ s.size := by have := HZ.out; omega
      have hnx : ∀ ty, (Instr.next (.pointer (some ⟨w.heap.size, 0, none⟩)) true ty).run Tryz.prog (w.iter t pos) = _ := fun ty => run_next_any w t pos ty hp
      have hne := ne_nil t pos hp
      have HW := Lib.hid (width_ok t pos hp)
      have HF := Lib.hid (fffd_or t pos hp)
      have HQ := Lib.hid (fun (e : Bool) => textS_quote (e := e) hne)
      have HE := Lib.hid (textS_end hne)
      have HB := Lib.hid (textS_bad hne)
      have HG := Lib.hid (textS_go hne)
      rw [Lib.decodeL_drop] at HQ HE HB HG
      revert hnx HW HF HQ HE HB HG
      generalize (Utf8.decode t pos).1 = r
      generalize (Utf8.decode t pos).2 = d
      intro hnx HW HF HQ HE HB HG
      clear hne
      by_cases hq : r = 39
      · have HH := Lib.hid hq
        subst hq
        cases e
        · go_wp2_with fail
          go_roundw
          case rel =>
            have h1 := HW.out
            refine ⟨pos + d, true, rfl, rfl, by omega, ?_⟩
            unfold Hid
            rw [HT.out, HQ.out false rfl, shift_shift, List.drop_drop]
            all_goals rfl
          case measure => have h1 := HW.out; simp; omega
        · go_wp2_with fail
          go_roundw
          case rel =>
            have h1 := HW.out
            refine ⟨pos + d, false, rfl, rfl, by omega, ?_⟩
            unfold Hid
            rw [HT.out, HQ.out true rfl, shift_shift, List.drop_drop]
            all_goals rfl
          case measure => have h1 := HW.out; simp; omega
      · have hb : ((r : Int) == 39) = false := by simp; omega
        have HN := Lib.hid hq
        clear hq
        cases e
        · by_cases h5 : r = 65533
          · rcases HF.out h5 with ⟨h6, h7⟩ | ⟨h6, h7⟩
            · have HPP : Hid (Lib.hasPrefix (s.extract (1 + pos) s.size).data.toList (⟨#[239, 191, 189]⟩ : ByteArray).data.toList = false) := by unfold Hid; rw [HP.out]; exact h7
              have HRR : Hid (tsR s.data.toList = (1 + pos, 40)) := by
                have e1 := HB.out h5 h6
                unfold Hid
                rw [HR.out, HT.out, e1]
                simp [shiftR]
              subst h5
              clear h6 h7 HF HB HG HE HQ HT HR HP HN
              go_wp2_with (go_at_call 32; (with_reducible refine (Tryz.strings_HasPrefix _ _ _).mono ?_); rintro e w' ⟨rfl, rfl⟩; rw [HPP.out])
              go_ret2
              exact ⟨by rw [HRR.out]; rfl, (Below.refl _ _).alloc (Nat.le_refl _) _⟩
            · have HPP : Hid (Lib.hasPrefix (s.extract (1 + pos) s.size).data.toList (⟨#[239, 191, 189]⟩ : ByteArray).data.toList = true) := by unfold Hid; rw [HP.out]; exact h7
              have HGG := Lib.hid (HG.out HN.out (by omega))
              subst h5
              clear h7 HF HB HG HE HQ HR HP HN
              have H6 := Lib.hid h6
              clear h6
              go_wp2_with (go_at_call 32; (with_reducible refine (Tryz.strings_HasPrefix _ _ _).mono ?_); rintro e w' ⟨rfl, rfl⟩; rw [HPP.out])
              go_roundw
              case rel =>
                have h1 := HW.out
                refine ⟨pos + d, false, rfl, rfl, by omega, ?_⟩
                unfold Hid
                rw [HT.out, HGG.out, shift_shift, List.drop_drop]
                all_goals rfl
              case measure => have h1 := HW.out; simp; omega
          · have h5b : ((r : Int) == 65533) = false := by simp; omega
            have HGG := Lib.hid (HG.out HN.out (by omega))
            clear h5 HF HB HG HE HQ HR HP HN
            go_wp2_with fail
            go_roundw
            case rel =>
              have h1 := HW.out
              refine ⟨pos + d, false, rfl, rfl, by omega, ?_⟩
              unfold Hid
              rw [HT.out, HGG.out, shift_shift, List.drop_drop]
              all_goals rfl
            case measure => have h1 := HW.out; simp; omega
        · have HRR : Hid (tsR s.data.toList = (1 + pos, 0)) := by
            have e1 := HE.out HN.out
            unfold Hid
            rw [HR.out, HT.out, e1]
            simp [shiftR]
          clear HF HB HG HE HQ HT HR HP HN
          go_wp2_with fail
          go_ret2
          exact ⟨by rw [HRR.out]; simp, (Below.refl _ _).alloc (Nat.le_refl _) _⟩
    · obtain rfl : pos = t.size := by omega
      have hnx : ∀ ty, (Instr.next (.pointer (some ⟨w.heap.size, 0, none⟩)) true ty).run Tryz.prog (w.iter t t.size) = _ := fun ty => run_next_end w t t.size ty hp
      have hd : t.data.toList.drop t.size = [] := List.drop_eq_nil_of_le (by rw [size_list]; exact Nat.le_refl _)
      rw [hd, textS_nil] at HT
      clear hd
      cases e
      · have HRR : Hid (tsR s.data.toList = (0, 41)) := by
          unfold Hid
          rw [HR.out, HT.out]
          simp [shiftR]
        clear HT HR HP
        go_wp2_with fail
        go_ret2
        exact ⟨by rw [HRR.out]; rfl, (Below.refl _ _).alloc (Nat.le_refl _) _⟩
      · have HRR : Hid (tsR s.data.toList = (s.size, 0)) := by
          unfold Hid
          rw [HR.out, HT.out]
          have := HZ.out
          simp [shiftR]; omega
        clear HT HR HP
        go_wp2_with fail
        go_ret2
        exact ⟨by rw [HRR.out]; rfl, (Below.refl _ _).alloc (Nat.le_refl _) _⟩

end Go.Proofs.YtlmjijiepnefdaaGreatDoor
