/-
  Long division of two words by one, digit by digit (Knuth's D), as plain arithmetic.
-/
import Derived.IntWalk
namespace Go.Proofs.YtippffjhkinfoaaGreatDoor.Dv

section
variable {B U d Y y1 y0 q r : Nat}

theorem lt_of_mul (h : U * B + d < (q + 1) * Y) (hY : 0 < Y) : (U * B + d) / Y ≤ q := by
  have := (Nat.div_lt_iff_lt_mul hY).mpr h; omega
theorem le_of_mul (h : q * Y ≤ U * B + d) (hY : 0 < Y) : q ≤ (U * B + d) / Y := (Nat.le_div_iff_mul_le hY).mpr h

/-- The first guess is not too small, and too great by two at most. -/
theorem start (hY : Y = y1 * B + y0) (h0 : y0 < B) (h1 : 0 < y1) (h2 : B ≤ 2 * y1) (hU : U < Y) (hd : d < B) :
    (U * B + d) / Y ≤ U / y1 ∧ U / y1 ≤ B + 1 := by
  have hy : 0 < y1 := h1
  constructor
  · refine lt_of_mul ?_ (by omega)
    have a : U < (U / y1 + 1) * y1 := by
      have := Nat.div_add_mod U y1
      have m := Nat.mod_lt U hy
      rw [Nat.add_mul, Nat.mul_comm (U / y1) y1]; omega
    have b : (U + 1) * B ≤ (U / y1 + 1) * y1 * B := Nat.mul_le_mul_right B a
    have c : (U / y1 + 1) * y1 * B ≤ (U / y1 + 1) * Y := by
      rw [Nat.mul_assoc]; exact Nat.mul_le_mul_left _ (by omega)
    have e : (U + 1) * B = U * B + B := by rw [Nat.add_mul, Nat.one_mul]
    omega
  · have a : U < (B + 2) * y1 := by
      have : (B + 2) * y1 = y1 * B + 2 * y1 := by rw [Nat.add_mul, Nat.mul_comm B y1]
      omega
    have := (Nat.div_lt_iff_lt_mul hy).mpr a
    omega

/-- No test strikes: the guess is the quotient. -/
theorem done (hY : Y = y1 * B + y0) (hU : U < Y) (hi : q * y1 + r = U) (hQ : (U * B + d) / Y ≤ q) (h : q * y0 ≤ B * r + d) : q = (U * B + d) / Y := by
  refine Nat.le_antisymm (le_of_mul ?_ (by omega)) hQ
  have a : q * Y = q * y1 * B + q * y0 := by rw [hY, Nat.mul_add, Nat.mul_assoc]
  have b : (q * y1 + r) * B = q * y1 * B + B * r := by rw [Nat.add_mul, Nat.mul_comm r B]
  rw [hi] at b
  omega

/-- A test strikes: the guess is too great. -/
theorem next (hY : Y = y1 * B + y0) (hU : U < Y) (hd : d < B) (hi : q * y1 + r = U) (h : B ≤ q ∨ B * r + d < q * y0) : (U * B + d) / Y < q := by
  have hp : 0 < Y := by omega
  rcases h with h | h
  · have a : (U + 1) * B ≤ Y * B := Nat.mul_le_mul_right B hU
    have e : (U + 1) * B = U * B + B := by rw [Nat.add_mul, Nat.one_mul]
    have c : U * B + d < B * Y := by rw [Nat.mul_comm B Y]; omega
    have := (Nat.div_lt_iff_lt_mul hp).mpr c
    omega
  · refine (Nat.div_lt_iff_lt_mul hp).mpr ?_
    have a : q * Y = q * y1 * B + q * y0 := by rw [hY, Nat.mul_add, Nat.mul_assoc]
    have b : (q * y1 + r) * B = q * y1 * B + B * r := by rw [Nat.add_mul, Nat.mul_comm r B]
    rw [hi] at b
    omega

/-- The rest has grown to a digit and more: the guess is the quotient. -/
theorem out (hY : Y = y1 * B + y0) (h0 : y0 < B) (hU : U < Y) (hi : q * y1 + r = U) (hQ : (U * B + d) / Y ≤ q) (hq : q ≤ B) (hr : B ≤ r) : q = (U * B + d) / Y := by
  refine done hY hU hi hQ ?_
  have a : q * y0 ≤ B * r := Nat.mul_le_mul hq (by omega)
  omega

/-- What stays behind is below the divisor. -/
theorem rest : U * B + d - (U * B + d) / Y * Y = (U * B + d) % Y ∧ (U * B + d) / Y * Y ≤ U * B + d := by
  have := Nat.div_add_mod (U * B + d) Y
  rw [Nat.mul_comm] at this
  omega

end

/-- Two digits of a quotient, one behind the other. -/
theorem two (B U d e Y : Nat) (hp : 0 < Y) : ((U * B + d) * B + e) / Y = (U * B + d) / Y * B + ((U * B + d) % Y * B + e) / Y ∧ ((U * B + d) * B + e) % Y = ((U * B + d) % Y * B + e) % Y := by
  have h := Nat.div_add_mod (U * B + d) Y
  generalize (U * B + d) / Y = q1 at *
  generalize (U * B + d) % Y = r1 at *
  have e1 : (U * B + d) * B + e = Y * (q1 * B) + (r1 * B + e) := by
    rw [← h, Nat.add_mul, Nat.mul_assoc]; omega
  rw [e1]
  constructor
  · rw [Nat.mul_add_div hp]
  · rw [Nat.mul_add_mod]

end Go.Proofs.YtippffjhkinfoaaGreatDoor.Dv
