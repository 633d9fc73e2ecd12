/-
  The contract of math/bits.Div64: for every upper word below the divisor it returns the quotient and the rest of the two words.
-/
import Derived.Test.YtippffjhkinfoaaGreatDoorDivWalk
import Derived.Test.YtippffjhkinfoaaGreatDoorRatio
import Derived.Laws.Bits64b
namespace Go.Proofs.YtippffjhkinfoaaGreatDoor
open Go.RowKit

theorem bl_zero : ∀ f, Lib.bitLenAux f 0 = 0
  | 0 => rfl
  | f + 1 => by simp [Lib.bitLenAux]

theorem bl_aux : ∀ (f x : Nat), x < 2 ^ f → Lib.bitLenAux f x ≤ f ∧ x < 2 ^ Lib.bitLenAux f x ∧ (x ≠ 0 → 2 ^ Lib.bitLenAux f x ≤ 2 * x)
  | 0, x, h => by
    have : x = 0 := by simpa using h
    subst this
    exact ⟨Nat.le_refl _, by simp [Lib.bitLenAux], fun h => absurd rfl h⟩
  | f + 1, x, h => by
    unfold Lib.bitLenAux
    by_cases h0 : x = 0
    · subst h0
      rw [if_pos rfl]
      exact ⟨Nat.zero_le _, by simp, fun h => absurd rfl h⟩
    · rw [if_neg h0]
      have hx : x / 2 < 2 ^ f := by rw [Nat.pow_succ] at h; omega
      obtain ⟨a, b, c⟩ := bl_aux f (x / 2) hx
      have e : 2 ^ (1 + Lib.bitLenAux f (x / 2)) = 2 * 2 ^ Lib.bitLenAux f (x / 2) := by rw [Nat.pow_add, Nat.pow_one]
      rw [e]
      refine ⟨by omega, by omega, fun _ => ?_⟩
      by_cases h1 : x / 2 = 0
      · rw [h1, bl_zero]; omega
      · have := c h1; omega

theorem bl_spec (y : Nat) (h0 : 0 < y) (h : y < 18446744073709551616) : Lib.bitLen y ≤ 64 ∧ y < 2 ^ Lib.bitLen y ∧ 2 ^ Lib.bitLen y ≤ 2 * y := by
  obtain ⟨a, b, c⟩ := bl_aux 64 y (by simpa using h)
  exact ⟨a, b, c (by omega)⟩

theorem and_mask (n : Nat) (h : n < 18446744073709551616) : bits .and .u64 (n : Int) 4294967295 = ((n % 4294967296 : Nat) : Int) := by
  have := bits_and_u64_nat n 4294967295 h (by decide)
  rw [show ((4294967295 : Nat) : Int) = 4294967295 from rfl] at this
  rw [this]
  have e : n &&& 4294967295 = n % 4294967296 := Nat.and_two_pow_sub_one_eq_mod n 32
  rw [e]

theorem or_apart (a b s : Nat) (hb : b < 2 ^ s) (h1 : a * 2 ^ s < 18446744073709551616) (h2 : b < 18446744073709551616) : bits .or .u64 ((a * 2 ^ s : Nat) : Int) (b : Int) = ((a * 2 ^ s + b : Nat) : Int) := by
  rw [bits_or_u64_nat _ _ h1 h2]
  have e : a * 2 ^ s + b = a * 2 ^ s ||| b := by rw [Nat.mul_comm]; exact Nat.two_pow_add_eq_or_of_lt hb a
  rw [e]

theorem cast_mul_pow (a s : Nat) : (a : Int) * 2 ^ s = ((a * 2 ^ s : Nat) : Int) := by
  rw [Int.natCast_mul, Int.natCast_pow]; rfl
theorem cast_div_pow (a s : Nat) : (a : Int) / 2 ^ s = ((a / 2 ^ s : Nat) : Int) := by
  rw [Int.natCast_ediv, Int.natCast_pow]; rfl
theorem cast_mul_word (a : Nat) : (a : Int) * 4294967296 = ((a * 4294967296 : Nat) : Int) := by omega

theorem two_words (U d e Y : Nat) : ((U * 4294967296 + d) * 4294967296 + e) / Y = (U * 4294967296 + d) / Y * 4294967296 + ((U * 4294967296 + d) % Y * 4294967296 + e) / Y ∧ ((U * 4294967296 + d) * 4294967296 + e) % Y = ((U * 4294967296 + d) % Y * 4294967296 + e) % Y := by
  by_cases h : 0 < Y
  · exact Dv.two 4294967296 U d e Y h
  · have : Y = 0 := by omega
    subst this
    simp

theorem join_words (U L d1 d0 N : Nat) (h1 : U * 18446744073709551616 + L = N) (h2 : d1 = L / 4294967296) (h3 : d0 = L % 4294967296) : (U * 4294967296 + d1) * 4294967296 + d0 = N := by
  have e := Nat.div_add_mod L 4294967296
  rw [← h2, ← h3, Nat.mul_comm] at e
  have e2 : 4294967296 * 4294967296 = 18446744073709551616 := by decide
  rw [Nat.add_mul, Nat.mul_assoc, e2, Nat.add_assoc, e, h1]

/-- The two halves of the shifted dividend. -/
theorem halves (hi lo y S X : Nat) (hS : S * X = 18446744073709551616) (hX : 0 < X) (hS0 : 0 < S) (hl : lo < 18446744073709551616) (h : hi < y) :
    (hi * S + lo / X) * 18446744073709551616 + lo * S % 18446744073709551616 = (hi * 18446744073709551616 + lo) * S ∧ lo / X < S ∧ hi * S + lo / X < y * S := by
  have a : lo / X < S := (Nat.div_lt_iff_lt_mul hX).mpr (by rw [hS]; exact hl)
  have b : lo * S / 18446744073709551616 = lo / X := by
    rw [← hS, Nat.mul_comm lo S]
    exact Nat.mul_div_mul_left lo X hS0
  have c := Nat.div_add_mod (lo * S) 18446744073709551616
  rw [b] at c
  refine ⟨?_, a, ?_⟩
  · rw [Nat.add_mul, Nat.add_mul, Nat.mul_right_comm]; omega
  · have d : (hi + 1) * S ≤ y * S := Nat.mul_le_mul_right S h
    rw [Nat.add_mul, Nat.one_mul] at d
    omega

set_option maxHeartbeats 4000000 in
theorem div64_any (hi lo y : Nat) (w : World) (h : hi < y) (hl : lo < 18446744073709551616) (hy : y < 18446744073709551616) :
    Calls Tryz.prog 131 #[.int .u64 (hi : Int), .int .u64 (lo : Int), .int .u64 (y : Int)] w (DivPost ((hi * 18446744073709551616 + lo) / y) ((hi * 18446744073709551616 + lo) % y) w) := by
  by_cases h0 : hi = 0
  · subst h0
    rw [Nat.zero_mul, Nat.zero_add]
    exact div64_low lo y w hl (by omega) hy
  obtain ⟨bl1, bl2, bl3⟩ := bl_spec y (by omega) hy
  obtain ⟨s, hs⟩ : ∃ s, s = 64 - Lib.bitLen y := ⟨_, rfl⟩
  have HZ : Hid (∀ w, Calls Tryz.prog 135 #[.int .u64 (y : Int)] w fun e w' => e = .returned (.int .i64 (s : Int)) ∧ w' = w) := by
    intro w
    have := Tryz.bits_LeadingZeros64 (y : Int) w (by omega) (by omega)
    rw [Int.toNat_natCast] at this
    rw [show ((s : Nat) : Int) = 64 - (Lib.bitLen y : Int) by omega]
    exact this
  obtain ⟨S, hS⟩ : ∃ S, S = 2 ^ s := ⟨_, rfl⟩
  obtain ⟨X, hX⟩ : ∃ X, X = 2 ^ (64 - s) := ⟨_, rfl⟩
  have hSX : S * X = 18446744073709551616 := by
    rw [hS, hX, ← Nat.pow_add, show s + (64 - s) = 64 by omega]
  have hS0 : 0 < S := by rw [hS]; exact Nat.two_pow_pos s
  have hX0 : 0 < X := by rw [hX]; exact Nat.two_pow_pos _
  have hXb : X = 2 ^ Lib.bitLen y := by rw [hX, hs]; congr 1; omega
  obtain ⟨k1, k2, k3⟩ := halves hi lo y S X hSX hX0 hS0 hl h
  obtain ⟨Y, hY⟩ : ∃ Y, Y = y * S := ⟨_, rfl⟩
  have Y1 : Y < 18446744073709551616 := by
    rw [hY, ← hSX, Nat.mul_comm S X]; exact Nat.mul_lt_mul_of_pos_right (by rw [hXb]; exact bl2) hS0
  have Y2 : 9223372036854775808 ≤ Y := by
    have : X * S ≤ 2 * y * S := Nat.mul_le_mul_right S (by rw [hXb]; exact bl3)
    rw [Nat.mul_comm X S, hSX, Nat.mul_assoc, ← hY] at this
    omega
  obtain ⟨U, hU⟩ : ∃ U, U = hi * S + lo / X := ⟨_, rfl⟩
  obtain ⟨L, hL⟩ : ∃ L, L = lo * S % 18446744073709551616 := ⟨_, rfl⟩
  have hHU : hi * S ≤ U := by rw [hU]; exact Nat.le_add_right _ _
  rw [← hU, ← hL] at k1
  rw [← hU, ← hY] at k3
  have L1 : L < 18446744073709551616 := by rw [hL]; exact Nat.mod_lt _ (by decide)
  obtain ⟨y1, hy1⟩ : ∃ y1, y1 = Y / 4294967296 := ⟨_, rfl⟩
  obtain ⟨y0, hy0⟩ : ∃ y0, y0 = Y % 4294967296 := ⟨_, rfl⟩
  obtain ⟨d1, hd1⟩ : ∃ d1, d1 = L / 4294967296 := ⟨_, rfl⟩
  obtain ⟨d0, hd0⟩ : ∃ d0, d0 = L % 4294967296 := ⟨_, rfl⟩
  obtain ⟨Q1, hQ1⟩ : ∃ Q1, Q1 = (U * 4294967296 + d1) / Y := ⟨_, rfl⟩
  obtain ⟨R1, hR1⟩ : ∃ R1, R1 = (U * 4294967296 + d1) % Y := ⟨_, rfl⟩
  obtain ⟨Q0, hQ0⟩ : ∃ Q0, Q0 = (R1 * 4294967296 + d0) / Y := ⟨_, rfl⟩
  obtain ⟨R0, hR0⟩ : ∃ R0, R0 = (R1 * 4294967296 + d0) % Y := ⟨_, rfl⟩
  have D1 : Dig U d1 Y y1 y0 Q1 R1 := ⟨by omega, by omega, by omega, by omega, k3, by omega, hQ1, hR1⟩
  have R1l := D1.Rlt
  have D0 : Dig R1 d0 Y y1 y0 Q0 R0 := ⟨by omega, by omega, by omega, by omega, R1l, by omega, hQ0, hR0⟩
  have R0l := D0.Rlt
  have Q1l := D1.Qlt
  have Q0l := D0.Qlt
  have tw := two_words U d1 d0 Y
  rw [← hR1, ← hQ1, ← hQ0, ← hR0] at tw
  have eN : (U * 4294967296 + d1) * 4294967296 + d0 = (hi * 18446744073709551616 + lo) * S := join_words U L d1 d0 _ k1 hd1 hd0
  rw [eN, hY, Nat.mul_div_mul_right _ _ hS0, Nat.mul_mod_mul_right] at tw
  have eR : R0 / S = (hi * 18446744073709551616 + lo) % y := by rw [← tw.2]; exact Nat.mul_div_cancel _ hS0
  rw [tw.1, ← eR]
  have hy1p : 0 < y1 := by omega
  have qa1 : U / y1 ≤ U := Nat.div_le_self _ _
  have qb1 : R1 / y1 ≤ R1 := Nat.div_le_self _ _
  have ea := Nat.div_add_mod U y1
  have eb := Nat.div_add_mod R1 y1
  rw [Nat.mul_comm] at ea eb
  have hH : hi * 2 ^ s < 18446744073709551616 := by rw [← hS]; omega
  refine div64_core hi lo y s Y y1 y0 (hi * 2 ^ s) (lo / X) U L d1 d0 (U / y1) (U / y1 * y1) (U % y1) Q1 (U * 4294967296 % 18446744073709551616) ((U * 4294967296 % 18446744073709551616 + d1) % 18446744073709551616) (Q1 * Y % 18446744073709551616) R1
    (R1 / y1) (R1 / y1 * y1) (R1 % y1) Q0 (Q1 * 4294967296) (Q1 * 4294967296 + Q0) (R1 * 4294967296 % 18446744073709551616) ((R1 * 4294967296 % 18446744073709551616 + d0) % 18446744073709551616) (Q0 * Y % 18446744073709551616) R0 (R0 / S) w
    HZ (by omega) (by omega) (by simp; omega) (by simp; omega) (by omega) (by omega) (by omega) (by simp; omega) (by omega) (by omega) (by omega) (by omega) D1 D0 D1.first D0.first
    ?_ ?_ ?_ ?_ ?_ ?_ ?_ ?_ ?_ ?_ ?_ ?_ ?_ ?_ ?_ ?_ ?_ ?_ ?_ ?_ ?_ ?_ ?_ ?_ ?_ ?_ ?_ ?_
  · rw [cast_mul_pow, ← hS, ← hY]; exact wr_in Y _ rfl Y1
  · omega
  · rw [and_mask Y Y1, hy0]
  · rw [cast_mul_pow]; exact wr_in _ _ rfl hH
  · rw [cast_div_pow, ← hX]
  · rw [or_apart hi (lo / X) s (by rw [← hS]; exact k2) hH (by have := Nat.div_le_self lo X; omega), hU, hS]
  · rw [cast_mul_pow, ← hS]; exact wr (lo * S) _ _ rfl hL.symm
  · omega
  · rw [and_mask L L1, hd0]
  · exact (Int.natCast_ediv U y1).symm
  · exact wr_in _ _ rfl (by omega)
  · exact wr_mul _ _ _ rfl (by omega)
  · exact wr_sub _ _ _ (by omega) (by have := Nat.mod_lt U hy1p; omega)
  · rw [cast_mul_word]; exact wr _ _ _ rfl rfl
  · exact wr_add_mod _ _
  · exact wr_mul_mod _ _
  · exact wr_rest U d1 Q1 Y R1 D1.sum (by omega)
  · exact (Int.natCast_ediv R1 y1).symm
  · exact wr_in _ _ rfl (by omega)
  · exact wr_mul _ _ _ rfl (by omega)
  · exact wr_sub _ _ _ (by omega) (by have := Nat.mod_lt R1 hy1p; omega)
  · rw [cast_mul_word]; exact wr_in _ _ rfl (by omega)
  · exact wr_in _ _ (by omega) (by omega)
  · rw [cast_mul_word]; exact wr _ _ _ rfl rfl
  · exact wr_add_mod _ _
  · exact wr_mul_mod _ _
  · exact wr_rest R1 d0 Q0 Y R0 D0.sum (by omega)
  · rw [cast_div_pow, hS]

end Go.Proofs.YtippffjhkinfoaaGreatDoor
