/-
  What the walk of Div64 is told: the numbers that come up, as equations between words; no program.
-/
import Derived.Test.YtippffjhkinfoaaGreatDoorDivPure
import Derived.WalkKit
import Derived.IntWalk
import Derived.Lib.Hide
namespace Go.Proofs.YtippffjhkinfoaaGreatDoor
open Go.RowKit

theorem wr (n m : Nat) (x : Int) (h : x = (n : Int)) (hm : n % 18446744073709551616 = m) : IntKind.u64.wrap x = (m : Int) := by
  rw [h, IntKind.wrap_u64]; omega
theorem wr_in (n : Nat) (x : Int) (h : x = (n : Int)) (hn : n < 18446744073709551616) : IntKind.u64.wrap x = (n : Int) := wr n n x h (by omega)
theorem wr_mul (a b n : Nat) (h : a * b = n) (hn : n < 18446744073709551616) : IntKind.u64.wrap ((a : Int) * (b : Int)) = (n : Int) :=
  wr_in n _ (by rw [← h]; exact (Int.natCast_mul a b).symm) hn
theorem wr_mul_mod (a b : Nat) : IntKind.u64.wrap ((a : Int) * (b : Int)) = ((a * b % 18446744073709551616 : Nat) : Int) :=
  wr (a * b) _ _ (Int.natCast_mul a b).symm rfl
theorem wr_add_mod (a b : Nat) : IntKind.u64.wrap ((a : Int) + (b : Int)) = (((a + b) % 18446744073709551616 : Nat) : Int) :=
  wr (a + b) _ _ (Int.natCast_add a b).symm rfl
theorem wr_sub (a b n : Nat) (h : a = b + n) (hn : n < 18446744073709551616) : IntKind.u64.wrap ((a : Int) - (b : Int)) = (n : Int) :=
  wr_in n _ (by omega) hn

/-- The words behind a digit: what is there times a word, the digit added, the quotient's product taken away, all modulo two words. -/
theorem wr_rest (U d Q Y R : Nat) (h : U * 4294967296 + d = Q * Y + R) (hR : R < 18446744073709551616) :
    IntKind.u64.wrap ((((U * 4294967296 % 18446744073709551616 + d) % 18446744073709551616 : Nat) : Int) - ((Q * Y % 18446744073709551616 : Nat) : Int)) = (R : Int) := by
  rw [IntKind.wrap_u64]
  generalize Q * Y = P at *
  omega

/-- One digit's division, told. -/
structure Dig (U d Y y1 y0 Q R : Nat) : Prop where
  hY : Y = y1 * 4294967296 + y0
  h0 : y0 < 4294967296
  h1 : 2147483648 ≤ y1
  h1' : y1 < 4294967296
  hU : U < Y
  hd : d < 4294967296
  hQ : Q = (U * 4294967296 + d) / Y
  hR : R = (U * 4294967296 + d) % Y

/-- What holds at each round's head. -/
def Inv (U d Y y1 q r : Nat) : Prop := q * y1 + r = U ∧ (U * 4294967296 + d) / Y ≤ q ∧ q ≤ 4294967297 ∧ r < 4294967296

section
variable {U d Y y1 y0 Q R q r : Nat}
theorem Dig.first (D : Dig U d Y y1 y0 Q R) : Inv U d Y y1 (U / y1) (U % y1) := by
  obtain ⟨a, b⟩ := Dv.start (B := 4294967296) D.hY D.h0 (by have := D.h1; omega) (by have := D.h1; omega) D.hU D.hd
  have m := Nat.mod_lt U (show 0 < y1 by have := D.h1; omega)
  have e := Nat.div_add_mod U y1
  rw [Nat.mul_comm] at e
  exact ⟨e, a, b, Nat.lt_trans m D.h1'⟩
theorem Dig.fin (D : Dig U d Y y1 y0 Q R) (h : Inv U d Y y1 q r) (ht : ¬ 4294967296 * r + d < q * y0) : q = Q := by
  rw [D.hQ]; exact Dv.done (B := 4294967296) D.hY D.hU h.1 h.2.1 (by omega)
theorem Dig.pos (D : Dig U d Y y1 y0 Q R) (h : Inv U d Y y1 q r) (ht : 4294967296 ≤ q ∨ 4294967296 * r + d < q * y0) : Q < q := by
  rw [D.hQ]; exact Dv.next (B := 4294967296) D.hY D.hU D.hd h.1 ht
theorem Dig.step (D : Dig U d Y y1 y0 Q R) (h : Inv U d Y y1 (q + 1) r) (hq : Q < q + 1) : q * y1 + (r + y1) = U ∧ (U * 4294967296 + d) / Y ≤ q ∧ q ≤ 4294967296 := by
  obtain ⟨a, _, c, _⟩ := h
  rw [Nat.add_mul, Nat.one_mul] at a
  have := D.hQ
  exact ⟨by omega, by omega, by omega⟩
theorem Dig.brk (D : Dig U d Y y1 y0 Q R) (h : q * y1 + (r + y1) = U ∧ (U * 4294967296 + d) / Y ≤ q ∧ q ≤ 4294967296) (hr : 4294967296 ≤ r + y1) : q = Q := by
  rw [D.hQ]; exact Dv.out (B := 4294967296) D.hY D.h0 D.hU h.1 h.2.1 h.2.2 hr
theorem Dig.Qlt (D : Dig U d Y y1 y0 Q R) : Q < 4294967296 := by
  rw [D.hQ]
  have a : (U + 1) * 4294967296 ≤ Y * 4294967296 := Nat.mul_le_mul_right _ D.hU
  have := D.hd
  exact (Nat.div_lt_iff_lt_mul (by have := D.hU; omega)).mpr (by rw [Nat.mul_comm 4294967296 Y]; omega)
theorem Dig.sum (D : Dig U d Y y1 y0 Q R) : U * 4294967296 + d = Q * Y + R := by
  rw [D.hQ, D.hR]
  have := Nat.div_add_mod (U * 4294967296 + d) Y
  rw [Nat.mul_comm] at this
  exact this.symm
theorem Dig.Rlt (D : Dig U d Y y1 y0 Q R) : R < Y := by
  rw [D.hR]; exact Nat.mod_lt _ (by have := D.hU; omega)
end

end Go.Proofs.YtippffjhkinfoaaGreatDoor
