/-
  How a row is written, as plain lists of bytes; and how long that is.
-/
import Derived.Test.YtoikbdgbhgokaaaDoorPrint
import Derived.Test.YtoikbdgbhgokaaaDoorEnc
import Derived.Lib.ItoaLen
namespace Go.Proofs.YtoikbdgbhgokaaaDoor
open Go.RowKit

def litDat (d : Dat) : List UInt8 := litD d.k d.i d.s

/-- A row's values, a comma and a blank ahead of each but the first. -/
def joinL : List Dat → List UInt8
  | [] => []
  | d :: r => litDat d ++ r.flatMap fun d => 44 :: 32 :: litDat d

theorem join_zero (l : List Dat) (h : 0 < l.length) : joinL (l.take (0 + 1)) = litDat l[0] := by
  cases l with
  | nil => simp at h
  | cons d r => simp [joinL]

theorem join_succ (l : List Dat) (k : Nat) (hk : 0 < k) (h : k < l.length) : joinL (l.take (k + 1)) = joinL (l.take k) ++ (44 :: 32 :: litDat l[k]) := by
  cases l with
  | nil => simp at h
  | cons d r =>
    obtain ⟨j, rfl⟩ : ∃ j, k = j + 1 := ⟨k - 1, by omega⟩
    have hj : j < r.length := by simpa using h
    simp only [List.take_succ_cons, joinL, List.getElem_cons_succ]
    rw [List.take_succ_eq_append_getElem hj, List.flatMap_append, List.append_assoc]
    simp

theorem decL_len (i : Int) (h : -9223372036854775808 ≤ i ∧ i ≤ 9223372036854775807) : (decL i).length ≤ 26 := by
  unfold decL
  have h1 := nd_le (i.natAbs / 10000) (by omega)
  have h2 : (four (i.natAbs % 10000)).length = 4 := rfl
  simp only [List.length_append, List.length_cons, h2]
  split <;> simp <;> omega

theorem litDat_len (d : Dat) (h : InI d) : (litDat d).length ≤ 2003 := by
  unfold litDat litD
  cases hr : rightD ⟨d.k, d.i, d.s⟩
  · simp
  · have hs := rightD_size _ hr
    simp only [] at hs
    have hl : d.s.data.toList.length ≤ 1000 := by rw [Array.length_toList]; exact hs
    rw [if_pos rfl]
    unfold litL
    split
    · simp
    · split
      · split <;> simp
      · split
        · have := Lib.itoa_length_le d.i h.1 h.2; omega
        · split
          · have := decL_len d.i h; omega
          · split
            · have := quoteL_len d.s.data.toList
              simp only [List.length_cons, List.length_append, List.length_nil]; omega
            · have := hexL_len d.s.data.toList
              simp only [List.length_cons, List.length_append, List.length_nil]; omega

theorem flat_len (r : List Dat) (h : ∀ d ∈ r, InI d) : (r.flatMap fun d => 44 :: 32 :: litDat d).length ≤ 2005 * r.length := by
  induction r with
  | nil => simp
  | cons d r ih =>
    have h1 := litDat_len d (h d (by simp))
    have h2 := ih (fun x hx => h x (by simp [hx]))
    rw [List.flatMap_cons, List.length_append, List.length_cons, List.length_cons, List.length_cons]; omega

theorem join_len (l : List Dat) (h : ∀ d ∈ l, InI d) : (joinL l).length ≤ 2005 * l.length := by
  cases l with
  | nil => simp [joinL]
  | cons d r =>
    have h1 := litDat_len d (h d (by simp))
    have h2 := flat_len r (fun x hx => h x (by simp [hx]))
    rw [joinL, List.length_append, List.length_cons]; omega

theorem join_take_len (l : List Dat) (k : Nat) (h : ∀ d ∈ l, InI d) (hl : l.length ≤ 1048576) : (joinL (l.take k)).length ≤ 2102394880 := by
  have h1 := join_len (l.take k) (fun d hd => h d (List.mem_of_mem_take hd))
  have h2 := List.length_take_le' k l
  omega

end Go.Proofs.YtoikbdgbhgokaaaDoor
