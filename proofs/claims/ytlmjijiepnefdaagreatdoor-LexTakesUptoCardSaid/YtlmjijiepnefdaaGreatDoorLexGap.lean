/-
  The contract of lex's gap: how many bytes of blanks and comments stand ahead.
-/
import Derived.Test.YtlmjijiepnefdaaGreatDoorLexRun
import Derived.Test.YtlmjijiepnefdaaGreatDoorShelf
namespace Go.Proofs.YtlmjijiepnefdaaGreatDoor
open Go.RowKit

theorem runN_pos {p : UInt8 → Bool} {c : UInt8} {l : List UInt8} (h : p c = true) : 1 ≤ runN p (c :: l) := by
  rw [runN_cons, h]; simp

/-- A comment and the blanks behind it. -/
def lineN (l : List UInt8) : Nat := runN lineB l + runN blankB (l.drop (runN lineB l))

theorem hasPrefix_cons {l : List UInt8} (h : Lib.hasPrefix l [45, 45] = true) : ∃ r, l = 45 :: 45 :: r := by
  unfold Lib.hasPrefix at h
  rw [List.isPrefixOf_iff_prefix] at h
  obtain ⟨t, ht⟩ := h
  exact ⟨t, ht.symm⟩

theorem lineN_pos {l : List UInt8} (h : Lib.hasPrefix l [45, 45] = true) : 1 ≤ lineN l := by
  obtain ⟨r, rfl⟩ := hasPrefix_cons h
  have := runN_pos (p := lineB) (c := 45) (l := 45 :: r) rfl
  unfold lineN; omega

theorem lineN_le (l : List UInt8) : lineN l ≤ l.length := by
  unfold lineN
  have h1 := runN_le lineB l
  have h2 := runN_le blankB (l.drop (runN lineB l))
  rw [List.length_drop] at h2; omega

/-- Comments, and the blanks behind each. -/
def gapT (l : List UInt8) : Nat :=
  if _h : Lib.hasPrefix l [45, 45] = true then lineN l + gapT (l.drop (lineN l)) else 0
termination_by l.length
decreasing_by
  have h1 := lineN_pos _h
  obtain ⟨r, rfl⟩ := hasPrefix_cons _h
  rw [List.length_drop, List.length_cons]; omega

theorem gapT_yes {l : List UInt8} (h : Lib.hasPrefix l [45, 45] = true) : gapT l = lineN l + gapT (l.drop (lineN l)) := by
  rw [gapT, dif_pos h]
theorem gapT_no {l : List UInt8} (h : Lib.hasPrefix l [45, 45] = false) : gapT l = 0 := by
  rw [gapT, dif_neg (by rw [h]; simp)]

/-- Blanks and comments. -/
def gapN (l : List UInt8) : Nat := runN blankB l + gapT (l.drop (runN blankB l))

theorem gapT_le (l : List UInt8) : gapT l ≤ l.length := by
  induction hn : l.length using Nat.strongRecOn generalizing l with
  | _ n ih =>
    cases hp : Lib.hasPrefix l [45, 45]
    · rw [gapT_no hp]; omega
    · have h1 := lineN_pos hp
      have h2 := lineN_le l
      rw [gapT_yes hp]
      have hl : (l.drop (lineN l)).length = l.length - lineN l := List.length_drop
      have := ih _ (by omega) (l.drop (lineN l)) rfl
      omega
theorem gapN_le (l : List UInt8) : gapN l ≤ l.length := by
  unfold gapN
  have h1 := runN_le blankB l
  have h2 := gapT_le (l.drop (runN blankB l))
  rw [List.length_drop] at h2; omega

/-- A number comes back; memory of its own alone is made. -/
def NatPost (n : Nat) (w : World) (e : Ending) (w' : World) : Prop := e = .returned (.int .i64 (n : Int)) ∧ Below w.heap.size w w'

theorem size_list (s : ByteArray) : s.data.toList.length = s.size := Array.length_toList
theorem ext_size (s : ByteArray) (k : Nat) : (s.extract k s.size).size = s.size - k := by
  have := congrArg List.length (Lib.extract_to_end s k)
  rw [size_list, List.length_drop, size_list] at this; exact this

set_option maxHeartbeats 4000000 in
set_option maxRecDepth 100000 in
theorem gap_any (s : ByteArray) (w : World) (hs : s.size ≤ 4000) :
    Calls Tryz.prog 20 #[.string s] w (NatPost (gapN s.data.toList) w) := by
  go_enter Tryz.func20, Tryz.ntmps20
  go_wp2_with fail
  refine (run_blank s _).mono ?_
  rintro e w1 ⟨rfl, b1⟩
  have hb := runN_le blankB s.data.toList
  rw [size_list] at hb
  have HG : Hid (gapN s.data.toList = runN blankB s.data.toList + gapT (s.data.toList.drop (runN blankB s.data.toList))) := rfl
  generalize runN blankB s.data.toList = k0 at *
  go_wp2_with fail
  go_loopw [3] (fun v wr => ∃ k : Nat, v = .int .i64 k ∧ k ≤ s.size ∧ Below w.heap.size w wr ∧ Hid (gapN s.data.toList = k + gapT (s.data.toList.drop k))) (fun v _ => s.size - (intOf v).toNat)
  case atStart => exact ⟨k0, rfl, hb, b1, HG⟩
  case round =>
    obtain ⟨k, rfl, hk, bk, HK⟩ := hrel
    cases hp : Lib.hasPrefix (s.data.toList.drop k) [45, 45]
    · have HF : Hid (gapN s.data.toList = k) := by have h1 := HK.out; have h2 := gapT_no hp; unfold Hid; omega
      have HP : Hid (Lib.hasPrefix (s.extract k s.size).data.toList ([45, 45] : List UInt8) = false) := by unfold Hid; rw [Lib.extract_to_end]; exact hp
      clear hp HK HG
      go_wp2_with fail
      refine (Tryz.strings_HasPrefix _ _ _).mono ?_
      rintro e w2 ⟨rfl, rfl⟩
      rw [HP.out]
      go_wp2
      go_ret
      exact ⟨by rw [HF.out]; rfl, bk⟩
    · have HP : Hid (Lib.hasPrefix (s.extract k s.size).data.toList ([45, 45] : List UInt8) = true) := by unfold Hid; rw [Lib.extract_to_end]; exact hp
      have HQ := Lib.hid hp
      have h1 := lineN_le (s.data.toList.drop k)
      rw [List.length_drop, size_list] at h1
      have h2 := runN_le lineB (s.data.toList.drop k)
      rw [List.length_drop, size_list] at h2
      have HL : Hid (lineN (s.data.toList.drop k) = runN lineB (s.data.toList.drop k) + runN blankB ((s.data.toList.drop k).drop (runN lineB (s.data.toList.drop k)))) := rfl
      clear hp HG
      go_wp2_with fail
      refine (Tryz.strings_HasPrefix _ _ _).mono ?_
      rintro e w2 ⟨rfl, rfl⟩
      rw [HP.out]
      go_wp2_with fail
      refine (run_line _ _).mono ?_
      rintro e w3 ⟨rfl, b3⟩
      have bk3 := bk.trans (b3.mono bk.size)
      rw [Lib.extract_to_end]
      generalize hj : runN lineB (s.data.toList.drop k) = j at *
      have HJ := Lib.hid hj
      clear hj b3
      go_wp2_with fail
      refine (run_blank _ _).mono ?_
      rintro e w4 ⟨rfl, b4⟩
      have bk4 := bk3.trans (b4.mono bk3.size)
      rw [Lib.extract_to_end]
      rw [List.drop_drop] at HL
      have h3 := HL.out
      have h4 := lineN_pos HQ.out
      have HN : Hid (gapN s.data.toList = k + j + runN blankB (s.data.toList.drop (k + j)) + gapT (s.data.toList.drop (k + j + runN blankB (s.data.toList.drop (k + j))))) := by
        have a1 := HK.out
        have a2 := gapT_yes HQ.out
        rw [List.drop_drop, h3] at a2
        unfold Hid
        rw [show k + (j + runN blankB (s.data.toList.drop (k + j))) = k + j + runN blankB (s.data.toList.drop (k + j)) by omega] at a2
        omega
      generalize runN blankB (s.data.toList.drop (k + j)) = m at *
      have h5 : j + m ≤ s.size - k := by omega
      have h6 : 1 ≤ j + m := by omega
      clear h1 h2 h3 h4 HL HK HQ HP b4 bk3
      go_wp2_with fail
      go_roundw
      case rel => exact ⟨k + j + m, by go_num, by omega, bk4, HN⟩
      case measure => simp [intOf]; omega

end Go.Proofs.YtlmjijiepnefdaaGreatDoor
