/-
  How many runes a text has: the reference's Runes and datum's runes tell the same number.
-/
import Derived.Test.YtimmgiiddckleaaDoorRunes
namespace Go.Proofs.YtimmgiiddckleaaDoor
open Go.RowKit

/-- How many runes there are from a place on. -/
def runeC (s : ByteArray) (pos : Nat) : Nat := if h : pos < s.size then runeC s (pos + max 1 (Utf8.decode s pos).2) + 1 else 0
termination_by s.size - pos
theorem runeC_end (s : ByteArray) (pos : Nat) (h : s.size ≤ pos) : runeC s pos = 0 := by
  unfold runeC
  rw [dif_neg (by omega)]
theorem runeC_step (s : ByteArray) (pos : Nat) (h : pos < s.size) : runeC s pos = runeC s (pos + (Utf8.decode s pos).2) + 1 := by
  have hw := (width_ok s pos h).1
  rw [runeC, dif_pos h, show max 1 (Utf8.decode s pos).2 = (Utf8.decode s pos).2 by omega]
theorem runeC_le (s : ByteArray) (pos : Nat) (h : pos ≤ s.size) : runeC s pos ≤ s.size - pos := by
  obtain ⟨n, hn⟩ : ∃ n, n = s.size - pos := ⟨_, rfl⟩
  induction n using Nat.strongRecOn generalizing pos with
  | ind n ih =>
    by_cases hp : pos < s.size
    · have hw := width_ok s pos hp
      rw [runeC_step s pos hp]
      have := ih (s.size - (pos + (Utf8.decode s pos).2)) (by omega) _ hw.2 rfl
      omega
    · rw [runeC_end s pos (by omega)]; omega

set_option maxHeartbeats 4000000 in
set_option maxRecDepth 100000 in
theorem runes_cnt (s : ByteArray) (w : World) (hs : s.size ≤ 1000) :
    Calls Tryd.prog 39 #[.string s] w fun e w' => ∃ n : Int, e = .returned (.tuple #[.int .i64 n, .bool (Lib.validD s.data.toList)]) ∧ (Lib.validD s.data.toList = true → n = runeC s 0) ∧ Below w.heap.size w w' := by
  go_enter Tryd.func39, Tryd.ntmps39
  go_wp2
  go_loopw [4] (fun n wr => ∃ (pos : Nat) (c : Int), wr = w.iter s pos ∧ n = .int .i64 c ∧ 0 ≤ c ∧ c ≤ pos ∧ pos ≤ s.size ∧ Lib.validD (s.data.toList.drop pos) = Lib.validD s.data.toList ∧ Hid (c + runeC s pos = runeC s 0)) (fun _ wr => s.size - wr.iterPos w.heap.size)
  case atStart => exact ⟨0, 0, rfl, rfl, by omega, by omega, by omega, by rw [List.drop_zero], by unfold Hid; omega⟩
  case round =>
    obtain ⟨pos, c, rfl, rfl, hc0, hc1, hpos, hv, HC⟩ := hrel
    have HV := Lib.hid hv
    clear hv
    by_cases hp : pos < s.size
    · have hnx : ∀ ty, (Instr.next (.pointer (some ⟨w.heap.size, 0, none⟩)) true ty).run Tryd.prog (w.iter s pos) = _ := fun ty => run_next_any w s pos ty hp
      have HE := Lib.hid (rune_err s pos hp)
      have HA := Lib.hid (validD_at s pos hp)
      have HW := Lib.hid (width_ok s pos hp)
      have HK := Lib.hid (runeC_step s pos hp)
      revert hnx HE HA HW HK
      generalize (Utf8.decode s pos).1 = r
      generalize (Utf8.decode s pos).2 = d
      intro hnx HE HA HW HK
      by_cases hr : r = 65533
      · rcases HE.out hr with ⟨hd, h3 | ⟨h3, hx⟩⟩ | ⟨hd, h3, hx⟩
        · have hf : Lib.validD s.data.toList = false := by rw [← HV.out, HA.out, if_pos ⟨hr, hd⟩]
          have HF := Lib.hid hf
          have h3z : (s.size : Int) < pos + 3 := by omega
          subst hr
          clear hf hd HE HA HV
          go_wp2
          go_ret2
          exact ⟨_, by rw [HF.out]; rfl, fun h => (by rw [HF.out] at h; cases h), (Below.refl _ _).alloc (Nat.le_refl _) _⟩
        · have hf : Lib.validD s.data.toList = false := by rw [← HV.out, HA.out, if_pos ⟨hr, hd⟩]
          have HF := Lib.hid hf
          have h3z : ¬ ((s.size : Int) < pos + 3) := by omega
          have hxt : (!(s.extract pos (pos + 3)).toList == [239, 191, 189]) = true := by
            simp only [Bool.not_eq_true', beq_eq_false_iff_ne]
            intro e
            rw [ByteArray.toList_eq] at e
            exact hx (ba_eq e)
          subst hr
          clear hf hd HE HA HV hx
          go_wp2
          go_ret2
          exact ⟨_, by rw [HF.out]; rfl, fun h => (by rw [HF.out] at h; cases h), (Below.refl _ _).alloc (Nat.le_refl _) _⟩
        · have h3z : ¬ ((s.size : Int) < pos + 3) := by omega
          have hxt : (!(s.extract pos (pos + 3)).toList == [239, 191, 189]) = false := by
            rw [hx, ByteArray.toList_eq]; rfl
          have HD := Lib.hid hd
          subst hr
          clear HE hx hd
          go_wp2
          go_roundw
          case rel =>
            have h1 := HW.out
            refine ⟨pos + d, c + 1, rfl, rfl, by omega, by omega, by omega, ?_, ?_⟩
            · rw [← HV.out, HA.out, if_neg (fun h => by have := HD.out; omega)]
            · have := HC.out; have := HK.out; unfold Hid; omega
          case measure => have h1 := HW.out; simp; omega
      · have hrb : ((r : Int) == 65533) = false := by simp; omega
        have HN := Lib.hid hr
        clear hr
        go_wp2
        go_roundw
        case rel =>
          have h1 := HW.out
          refine ⟨pos + d, c + 1, rfl, rfl, by omega, by omega, by omega, ?_, ?_⟩
          · rw [← HV.out, HA.out, if_neg (fun h => HN.out h.1)]
          · have := HC.out; have := HK.out; unfold Hid; omega
        case measure => have h1 := HW.out; simp; omega
    · obtain rfl : pos = s.size := by omega
      have hnx : ∀ ty, (Instr.next (.pointer (some ⟨w.heap.size, 0, none⟩)) true ty).run Tryd.prog (w.iter s s.size) = _ := fun ty => run_next_end w s s.size ty hp
      have hf : Lib.validD s.data.toList = true := by rw [← HV.out, List.drop_eq_nil_of_le (by rw [Array.length_toList]; exact Nat.le_refl _)]; rfl
      have HF := Lib.hid hf
      clear hf
      go_wp2
      go_ret2
      exact ⟨_, by rw [HF.out]; rfl, fun _ => (by have := HC.out; rw [runeC_end s s.size (Nat.le_refl _)] at this; omega), (Below.refl _ _).alloc (Nat.le_refl _) _⟩

set_option maxHeartbeats 4000000 in
set_option maxRecDepth 100000 in
theorem cnt_any (s : ByteArray) (w : World) (hs : s.size ≤ 1000) :
    Calls Tryd.prog 47 #[.string s] w fun e w' => e = .returned (.int .i64 (runeC s 0)) ∧ Below w.heap.size w w' := by
  go_enter Tryd.func47, Tryd.ntmps47
  go_wp2
  go_loopw [3] (fun n wr => ∃ pos c : Nat, wr = w.iter s pos ∧ n = .int .i64 (c : Int) ∧ c ≤ pos ∧ pos ≤ s.size ∧ Hid (c + runeC s pos = runeC s 0)) (fun _ wr => s.size - wr.iterPos w.heap.size)
  case atStart => exact ⟨0, 0, rfl, rfl, by omega, by omega, by unfold Hid; omega⟩
  case round =>
    obtain ⟨pos, c, rfl, rfl, hc1, hpos, HC⟩ := hrel
    by_cases hp : pos < s.size
    · have hnx : ∀ ty, (Instr.next (.pointer (some ⟨w.heap.size, 0, none⟩)) true ty).run Tryd.prog (w.iter s pos) = _ := fun ty => run_next_any w s pos ty hp
      have HW := Lib.hid (width_ok s pos hp)
      have HK := Lib.hid (runeC_step s pos hp)
      revert hnx HW HK
      generalize (Utf8.decode s pos).1 = r
      generalize (Utf8.decode s pos).2 = d
      intro hnx HW HK
      go_wp2
      have h1 := HW.out
      have h2 := HC.out
      have h3 := HK.out
      refine ⟨⟨pos + d, c + 1, rfl, by go_num, by omega, by omega, by unfold Hid; omega⟩, ?_⟩
      simp; omega
    · obtain rfl : pos = s.size := by omega
      have hnx : ∀ ty, (Instr.next (.pointer (some ⟨w.heap.size, 0, none⟩)) true ty).run Tryd.prog (w.iter s s.size) = _ := fun ty => run_next_end w s s.size ty hp
      have HF : Hid (runeC s 0 = c) := by have := HC.out; rw [runeC_end s s.size (Nat.le_refl _)] at this; unfold Hid; omega
      go_wp2
      go_ret
      exact ⟨by rw [HF.out]; rfl, (Below.refl _ _).alloc (Nat.le_refl _) _⟩

end Go.Proofs.YtimmgiiddckleaaDoor
