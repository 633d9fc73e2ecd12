/-
  How many bytes a token has.
-/
import Derived.Test.YtlmjijiepnefdaaGreatDoorLexFirst
namespace Go.Proofs.YtlmjijiepnefdaaGreatDoor
open Go.RowKit

/-- No more than there are; and one at least, if nothing is wrong. -/
def SizeOk (l : List UInt8) (r : Tok × Nat × Int) : Prop := r.2.1 ≤ l.length ∧ (r.2.2 = 0 → 1 ≤ r.2.1)

theorem head_run {p : UInt8 → Bool} {l : List UInt8} (hne : l ≠ []) (h : p (l.getD 0 0) = true) : 1 ≤ runN p l := by
  cases l with
  | nil => exact absurd rfl hne
  | cons a l =>
    have h1 : p a = true := h
    rw [runN_cons, if_pos h1]; omega

theorem letter_name : ∀ c : UInt8, letterB c = true → nameB c = true := u8_all _ (by decide +kernel)

theorem oct_size (l : List UInt8) : SizeOk l (octR l) := by
  have h := runN_le hexB (l.drop 2)
  have hd : (l.drop 2).length = l.length - 2 := List.length_drop
  unfold SizeOk octR
  have hn : octN l = runN hexB (l.drop 2) := rfl
  split
  · exact ⟨Nat.zero_le _, fun h => by simp at h⟩
  · split
    · exact ⟨Nat.zero_le _, fun h => by simp at h⟩
    · split
      · exact ⟨Nat.zero_le _, fun h => by simp at h⟩
      · exact ⟨by show 3 + octN l ≤ _; omega, fun _ => by show 1 ≤ 3 + octN l; omega⟩

theorem name_size (l : List UInt8) (hne : l ≠ []) (hl : letterB (l.getD 0 0) = true) : SizeOk l (nameR l) := by
  have h := runN_le nameB l
  have h1 := head_run hne (letter_name _ hl)
  unfold SizeOk nameR
  split
  · exact ⟨Nat.zero_le _, fun h => by simp at h⟩
  · split
    · exact ⟨h, fun _ => h1⟩
    · exact ⟨h, fun _ => h1⟩

theorem num_size (l : List UInt8) (hne : l ≠ []) (hl : digitB (l.getD 0 0) = true) : SizeOk l (numR l) := by
  have h := runN_le digitB l
  have h1 := head_run hne hl
  have hf := frac_le (l.drop (runN digitB l))
  rw [List.length_drop] at hf
  have hN : numN l ≤ l.length ∧ 1 ≤ numN l := by
    unfold numN
    have hF : numF l = fracN (l.drop (runN digitB l)) := rfl
    split
    · rename_i h2
      have := hf.2 (hF ▸ h2)
      omega
    · omega
  unfold SizeOk numR
  split
  · exact ⟨Nat.zero_le _, fun h => by simp at h⟩
  · split
    · exact ⟨Nat.zero_le _, fun h => by simp at h⟩
    · exact ⟨hN.1, fun _ => hN.2⟩

theorem txt_size (l : List UInt8) (hne : l ≠ []) : SizeOk l (txtR l) := by
  have h0 : 1 ≤ l.length := by cases l with | nil => exact absurd rfl hne | cons a l => simp
  have h := tsR_le l h0
  unfold SizeOk txtR
  split
  · rename_i h2
    split
    · exact ⟨Nat.zero_le _, fun h => by simp at h⟩
    · exact ⟨h.1, fun _ => by have := h.2 h2; show 1 ≤ (tsR l).1; omega⟩
  · rename_i h2
    exact ⟨h.1, fun h3 => absurd h3 h2⟩

theorem prefix_le : ∀ (l p : List UInt8), Lib.hasPrefix l p = true → p.length ≤ l.length := by
  intro l p h
  unfold Lib.hasPrefix at h
  have := List.isPrefixOf_iff_prefix.1 h
  exact this.length_le

theorem sym_size (l : List UInt8) : SizeOk l (symR l) := by
  unfold SizeOk symR
  split
  · rename_i p hp
    have h1 := List.find?_some hp
    have h2 := List.mem_of_find?_eq_some hp
    have h3 : ∀ q ∈ syms, 1 ≤ q.length := by decide
    exact ⟨prefix_le l p h1, fun _ => h3 p h2⟩
  · exact ⟨Nat.zero_le _, fun h => by simp at h⟩

theorem first_size (l : List UInt8) (hne : l ≠ []) : SizeOk l (firstR l) := by
  unfold firstR
  split
  · exact oct_size l
  · split
    · exact name_size l hne ‹_›
    · split
      · exact num_size l hne ‹_›
      · split
        · exact txt_size l hne
        · exact sym_size l

end Go.Proofs.YtlmjijiepnefdaaGreatDoor
