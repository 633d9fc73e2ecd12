/-
  The contract of the reference's Runes: whether a text of at most 1000 bytes is UTF-8; it makes memory of its own alone.
-/
import Derived.Test.YtimmgiiddckleaaDoorValid
namespace Go.Proofs.YtimmgiiddckleaaDoor
open Go.RowKit

/-- Runes tells b. -/
def RunesPost (b : Bool) (w : World) (e : Ending) (w' : World) : Prop := ∃ n : Int, e = .returned (.tuple #[.int .i64 n, .bool b]) ∧ Below w.heap.size w w'

set_option maxHeartbeats 4000000 in
set_option maxRecDepth 100000 in
theorem runes_any (s : ByteArray) (w : World) (hs : s.size ≤ 1000) :
    Calls Tryd.prog 39 #[.string s] w (RunesPost (Lib.validD s.data.toList) w) := by
  go_enter Tryd.func39, Tryd.ntmps39
  go_wp2
  go_loopw [4] (fun n wr => ∃ (pos : Nat) (c : Int), wr = w.iter s pos ∧ n = .int .i64 c ∧ 0 ≤ c ∧ c ≤ pos ∧ pos ≤ s.size ∧ Lib.validD (s.data.toList.drop pos) = Lib.validD s.data.toList) (fun _ wr => s.size - wr.iterPos w.heap.size)
  case atStart => exact ⟨0, 0, rfl, rfl, by omega, by omega, by omega, by rw [List.drop_zero]⟩
  case round =>
    obtain ⟨pos, c, rfl, rfl, hc0, hc1, hpos, hv⟩ := hrel
    have HV := Lib.hid hv
    clear hv
    by_cases hp : pos < s.size
    · have hnx : ∀ ty, (Instr.next (.pointer (some ⟨w.heap.size, 0, none⟩)) true ty).run Tryd.prog (w.iter s pos) = _ := fun ty => run_next_any w s pos ty hp
      have HE := Lib.hid (rune_err s pos hp)
      have HA := Lib.hid (validD_at s pos hp)
      have HW := Lib.hid (width_ok s pos hp)
      revert hnx HE HA HW
      generalize (Utf8.decode s pos).1 = r
      generalize (Utf8.decode s pos).2 = d
      intro hnx HE HA HW
      by_cases hr : r = 65533
      · rcases HE.out hr with ⟨hd, h3 | ⟨h3, hx⟩⟩ | ⟨hd, h3, hx⟩
        · have hf : Lib.validD s.data.toList = false := by rw [← HV.out, HA.out, if_pos ⟨hr, hd⟩]
          have HF := Lib.hid hf
          have h3z : (s.size : Int) < pos + 3 := by omega
          subst hr
          clear hf hd HE HA HV
          go_wp2
          go_ret2
          exact ⟨_, by rw [HF.out]; rfl, (Below.refl _ _).alloc (Nat.le_refl _) _⟩
        · have hf : Lib.validD s.data.toList = false := by rw [← HV.out, HA.out, if_pos ⟨hr, hd⟩]
          have HF := Lib.hid hf
          have h3z : ¬ ((s.size : Int) < pos + 3) := by omega
          have hxt : (!(s.extract pos (pos + 3)).toList == [239, 191, 189]) = true := by
            simp only [Bool.not_eq_true', beq_eq_false_iff_ne]
            intro e
            rw [ByteArray.toList_eq] at e
            exact hx (ba_eq e)
          subst hr
          clear hf hd HE HA HV hx
          go_wp2
          go_ret2
          exact ⟨_, by rw [HF.out]; rfl, (Below.refl _ _).alloc (Nat.le_refl _) _⟩
        · have h3z : ¬ ((s.size : Int) < pos + 3) := by omega
          have hxt : (!(s.extract pos (pos + 3)).toList == [239, 191, 189]) = false := by
            rw [hx, ByteArray.toList_eq]; rfl
          have HD := Lib.hid hd
          subst hr
          clear HE hx hd
          go_wp2
          go_roundw
          case rel =>
            have h1 := HW.out
            refine ⟨pos + d, c + 1, rfl, rfl, by omega, by omega, by omega, ?_⟩
            rw [← HV.out, HA.out, if_neg (fun h => by have := HD.out; omega)]
          case measure => have h1 := HW.out; simp; omega
      · have hrb : ((r : Int) == 65533) = false := by simp; omega
        have HN := Lib.hid hr
        clear hr
        go_wp2
        go_roundw
        case rel =>
          have h1 := HW.out
          refine ⟨pos + d, c + 1, rfl, rfl, by omega, by omega, by omega, ?_⟩
          rw [← HV.out, HA.out, if_neg (fun h => HN.out h.1)]
        case measure => have h1 := HW.out; simp; omega
    · obtain rfl : pos = s.size := by omega
      have hnx : ∀ ty, (Instr.next (.pointer (some ⟨w.heap.size, 0, none⟩)) true ty).run Tryd.prog (w.iter s s.size) = _ := fun ty => run_next_end w s s.size ty hp
      have hf : Lib.validD s.data.toList = true := by rw [← HV.out, List.drop_eq_nil_of_le (by rw [Array.length_toList]; exact Nat.le_refl _)]; rfl
      have HF := Lib.hid hf
      clear hf
      go_wp2
      go_ret2
      exact ⟨_, by rw [HF.out]; rfl, (Below.refl _ _).alloc (Nat.le_refl _) _⟩
end Go.Proofs.YtimmgiiddckleaaDoor
