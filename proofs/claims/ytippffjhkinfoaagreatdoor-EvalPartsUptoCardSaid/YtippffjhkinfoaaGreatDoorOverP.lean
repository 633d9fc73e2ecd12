/-
  A quotient found bit by bit: pure facts.
-/
import Derived.Test.YtippffjhkinfoaaGreatDoorPure
namespace Go.Proofs.YtippffjhkinfoaaGreatDoor

/-- What holds ahead of bit k - 1: the bits that are found, and what is still open. -/
def OvInv (x y q k : Nat) : Prop := q % 2 ^ k = 0 ∧ q + 2 ^ k ≤ 18446744073709551616 ∧ q * y ≤ x ∧ (x < (q + 2 ^ k) * y ∨ q + 2 ^ k = 18446744073709551616)
theorem OvInv.start (x y : Nat) : OvInv x y 0 64 := ⟨by simp, by decide, by simp, .inr (by decide)⟩
theorem OvInv.low {x y q k : Nat} (h : OvInv x y q (k + 1)) : q % 2 ^ k = 0 := by
  have h1 := h.1
  rw [Nat.pow_succ] at h1
  have h2 : q % (2 ^ k * 2) % 2 ^ k = q % 2 ^ k := Nat.mod_mul_right_mod q (2 ^ k) 2
  rw [h1] at h2
  simpa using h2.symm
theorem OvInv.yes {x y q k : Nat} (h : OvInv x y q (k + 1)) (ht : (q + 2 ^ k) * y ≤ x) : OvInv x y (q + 2 ^ k) k := by
  have hl := h.low
  obtain ⟨_, h2, _, h4⟩ := h
  have e : q + 2 ^ k + 2 ^ k = q + 2 ^ (k + 1) := by rw [Nat.pow_succ]; omega
  refine ⟨?_, by rw [e]; exact h2, ht, by rw [e]; exact h4⟩
  rw [Nat.add_mod, hl, Nat.mod_self]
  simp
theorem OvInv.no {x y q k : Nat} (h : OvInv x y q (k + 1)) (ht : x < (q + 2 ^ k) * y) : OvInv x y q k := by
  have hl := h.low
  obtain ⟨_, h2, h3, _⟩ := h
  have : 2 ^ k ≤ 2 ^ (k + 1) := Nat.pow_le_pow_right (by decide) (Nat.le_succ k)
  exact ⟨hl, by omega, h3, .inl ht⟩
theorem OvInv.done {x y q : Nat} (h : OvInv x y q 0) (hy : 0 < y) : q ≤ 18446744073709551615 ∧ q * y ≤ x ∧ (x - q * y < y → x / y = q) ∧ (y ≤ x - q * y → 18446744073709551616 ≤ x / y) := by
  obtain ⟨_, h2, h3, h4⟩ := h
  rw [Nat.pow_zero] at h2 h4
  refine ⟨by omega, h3, ?_, ?_⟩
  · intro h5
    have h6 : x < (q + 1) * y := by rw [Nat.add_mul, Nat.one_mul]; omega
    exact Nat.div_eq_of_lt_le h3 h6
  · intro h5
    have h6 : (q + 1) * y ≤ x := by rw [Nat.add_mul, Nat.one_mul]; omega
    rcases h4 with h4 | h4
    · omega
    · rw [← h4]
      exact (Nat.le_div_iff_mul_le hy).2 h6
/-- A bit that is put in. -/
theorem ov_or {q k : Nat} (h : q % 2 ^ (k + 1) = 0) : q ||| 2 ^ k = q + 2 ^ k := by
  have h1 : q = 2 ^ (k + 1) * (q / 2 ^ (k + 1)) := by have := Nat.div_add_mod q (2 ^ (k + 1)); omega
  rw [h1]
  exact (Nat.two_pow_add_eq_or_of_lt (Nat.pow_lt_pow_right (by decide) (Nat.lt_succ_self k)) _).symm

/-- A quotient towards 0 is the amounts' quotient, with its sign. -/
theorem ov_tdiv (m1 m2 : Bool) (x y : Nat) : (if m1 then -(x : Int) else x).tdiv (if m2 then -(y : Int) else y) = if (m1 != m2) then -((x / y : Nat) : Int) else ((x / y : Nat) : Int) := by
  have h : (x : Int).tdiv (y : Int) = ((x / y : Nat) : Int) := rfl
  cases m1 <;> cases m2 <;> simp [Int.neg_tdiv, Int.tdiv_neg, h]

end Go.Proofs.YtippffjhkinfoaaGreatDoor
