/-
  What a number's digits come to, as plain arithmetic.
-/
import Derived.Test.YtlmjijiepnefdaaGreatDoorLexTok
import Derived.Lib.ParseIntB
namespace Go.Proofs.YtlmjijiepnefdaaGreatDoor
open Go.RowKit

/-- The number that digits spell. -/
def decF (a : Nat) (l : List UInt8) : Nat := l.foldl (fun a c => a * 10 + (c.toNat - 48)) a
theorem decF_cons (a : Nat) (c : UInt8) (l : List UInt8) : decF a (c :: l) = decF (a * 10 + (c.toNat - 48)) l := by unfold decF; rw [List.foldl_cons]
theorem decF_ge (l : List UInt8) : ∀ a, a ≤ decF a l := by
  induction l with
  | nil => intro a; exact Nat.le_refl _
  | cons c l ih => intro a; rw [decF_cons]; have := ih (a * 10 + (c.toNat - 48)); omega

theorem digit_iff (c : UInt8) : digitB c = true ↔ 48 ≤ c.toNat ∧ c.toNat ≤ 57 := by
  unfold digitB
  simp [UInt8.le_iff_toNat_le]

theorem parseM_eq (l : List UInt8) : ∀ a, (∀ c ∈ l, digitB c = true) → a ≤ 18446744073709551615 → Lib.parseUintM (2 ^ 64 - 1) a l = if decF a l ≤ 18446744073709551615 then .ok (decF a l) else .range := by
  induction l with
  | nil => intro a _ ha; rw [Lib.parseUintM]; show _ = if a ≤ _ then _ else _; rw [if_pos ha]; rfl
  | cons c l ih =>
    intro a hd ha
    have hc := (digit_iff c).1 (hd c (by simp))
    have hge := decF_ge l (a * 10 + (c.toNat - 48))
    rw [Lib.parseUintM, if_pos hc, decF_cons]
    by_cases h1 : 1844674407370955162 ≤ a
    · rw [if_pos h1, if_neg (by omega)]
    · rw [if_neg h1]
      by_cases h2 : 2 ^ 64 - 1 < a * 10 + (c.toNat - 48)
      · rw [if_pos h2, if_neg (by omega)]
      · rw [if_neg h2]
        exact ih _ (fun x hx => hd x (by simp [hx])) (by omega)

theorem parse_eq (l : List UInt8) (hne : l ≠ []) (hd : ∀ c ∈ l, digitB c = true) : Lib.parseUintB 64 l = if decF 0 l ≤ 18446744073709551615 then .ok (decF 0 l) else .range := by
  unfold Lib.parseUintB
  rw [if_neg hne]
  exact parseM_eq l 0 hd (by omega)

theorem take_run (p : UInt8 → Bool) (l : List UInt8) : l.take (runN p l) = l.takeWhile p := by
  induction l with
  | nil => rfl
  | cons c l ih =>
    rw [runN_cons, List.takeWhile_cons]
    split
    · rw [List.take_succ_cons, ih]
    · rfl
theorem run_all (p : UInt8 → Bool) (l : List UInt8) : ∀ c ∈ l.take (runN p l), p c = true := by
  rw [take_run]
  intro c hc
  exact List.all_eq_true.1 List.all_takeWhile c hc

/-- A number's digits, its ten-thousandths filled up; its bytes; its value. -/
def numF (l : List UInt8) : Nat := fracN (l.drop (runN digitB l))
def numD (l : List UInt8) : List UInt8 := l.take (runN digitB l) ++ (if 0 < numF l then ((l.drop (runN digitB l)).drop 1).take (numF l) ++ List.replicate (4 - numF l) 48 else [])
def numN (l : List UInt8) : Nat := if 0 < numF l then runN digitB l + (1 + numF l) else runN digitB l
def numV (v : Nat) : Int := if v = 9223372036854775808 then -9223372036854775808 else v
def numR (l : List UInt8) : Tok × Nat × Int :=
  if 4 < numF l then (Tok.zero, 0, 42)
  else if 9223372036854775808 < decF 0 (numD l) ∨ 0 < runN letterB (l.drop (numN l)) then (Tok.zero, 0, 42)
  else (⟨3, [], if 0 < numF l then 3 else 2, numV (decF 0 (numD l)), []⟩, numN l, 0)

theorem frac_le (l : List UInt8) : fracN l ≤ l.length ∧ (0 < fracN l → fracN l + 1 ≤ l.length) := by
  unfold fracN
  split
  · have := runN_le digitB (l.drop 1)
    rw [List.length_drop] at this
    exact ⟨by omega, fun h => by omega⟩
  · exact ⟨by simp, fun h => by omega⟩

theorem frac_all (l : List UInt8) : ∀ c ∈ (l.drop 1).take (fracN l), digitB c = true := by
  unfold fracN
  split
  · exact run_all digitB (l.drop 1)
  · intro c hc; simp at hc

theorem numD_all (l : List UInt8) : ∀ c ∈ numD l, digitB c = true := by
  intro c hc
  unfold numD at hc
  rw [List.mem_append] at hc
  rcases hc with hc | hc
  · exact run_all digitB l c hc
  · split at hc
    · rw [List.mem_append] at hc
      rcases hc with hc | hc
      · exact frac_all _ c hc
      · rw [List.mem_replicate] at hc
        rw [hc.2]; rfl
    · simp at hc

theorem numD_ne (l : List UInt8) (h : 0 < runN digitB l) : numD l ≠ [] := by
  intro e
  have := congrArg List.length e
  unfold numD at this
  rw [List.length_append, List.length_take] at this
  have h2 := runN_le digitB l
  rw [List.length_nil] at this
  omega

theorem numV_wrap (v : Nat) (h : v ≤ 9223372036854775808) : wrap64 (v : Int) = numV v := by
  unfold numV wrap64; split <;> omega

end Go.Proofs.YtlmjijiepnefdaaGreatDoor
