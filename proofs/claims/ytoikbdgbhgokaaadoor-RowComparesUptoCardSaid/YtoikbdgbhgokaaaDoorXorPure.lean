/-
  The highest bit of 64 turned round, as a sum; numbers of 64 bits alone.
-/
import Derived.Test.YtoikbdgbhgokaaaDoorRowPure
import Derived.Laws.BitsAllLaws
import Derived.Laws.BitsLemmas
import Derived.Laws.Wrap64
namespace Go.Proofs.YtoikbdgbhgokaaaDoor

theorem xor_lo (a : Nat) (h : a < 2 ^ 63) : a ^^^ 2 ^ 63 = a + 2 ^ 63 := by
  have h1 : 2 ^ 63 * 1 + a = 2 ^ 63 * 1 ||| a := Nat.two_pow_add_eq_or_of_lt h 1
  rw [Nat.mul_one] at h1
  rw [Nat.add_comm, h1]
  apply Nat.eq_of_testBit_eq
  intro j
  rw [Nat.testBit_xor, Nat.testBit_or, Nat.testBit_two_pow]
  by_cases hj : 63 = j
  · subst hj
    have : a.testBit 63 = false := Nat.testBit_lt_two_pow h
    simp [this]
  · simp [hj]
theorem xor_hi (a : Nat) (h : 2 ^ 63 ≤ a) (h2 : a < 2 ^ 64) : a ^^^ 2 ^ 63 = a - 2 ^ 63 := by
  have e : a = (a - 2 ^ 63) ^^^ 2 ^ 63 := by rw [xor_lo _ (by omega)]; omega
  rw [e, Nat.xor_assoc, Nat.xor_self, Nat.xor_zero]
  rw [← e]

theorem xor_top (i : Int) (h0 : -9223372036854775808 ≤ i) (h1 : i ≤ 9223372036854775807) : bits .xor .u64 (IntKind.u64.wrap i) 9223372036854775808 = ((turned i : Nat) : Int) := by
  have hw : IntKind.u64.wrap i = (((i % 18446744073709551616).toNat : Nat) : Int) := by
    rw [IntKind.wrap_u64]; omega
  rw [hw]
  have hx := u64_xor_nat (i % 18446744073709551616).toNat 9223372036854775808 (by omega) (by omega)
  rw [show (9223372036854775808 : Int) = ((9223372036854775808 : Nat) : Int) from rfl, hx]
  unfold turned
  rcases Int.lt_or_le i 0 with h | h
  · have e : (i % 18446744073709551616).toNat = (i + 18446744073709551616).toNat := by omega
    rw [e, show (9223372036854775808 : Nat) = 2 ^ 63 from rfl, xor_hi _ (by omega) (by omega)]
    omega
  · have e : (i % 18446744073709551616).toNat = i.toNat := by omega
    rw [e, show (9223372036854775808 : Nat) = 2 ^ 63 from rfl, xor_lo _ (by omega)]
    omega
end Go.Proofs.YtoikbdgbhgokaaaDoor
