/-
  The contracts of datum's number and scaled; and what an INT is as a DEC.
-/
import Derived.Test.YtippffjhkinfoaaGreatDoorRatio
namespace Go.Proofs.YtippffjhkinfoaaGreatDoor
open Go.RowKit

/-- An INT as a DEC: what comes back, and whether it has room. -/
def scB (i : Int) : Bool := decide (-9223372036854775808 ≤ i * 10000 ∧ i * 10000 ≤ 9223372036854775807)
def scV (i : Int) : Int :=
  if 1 ≤ i.natAbs * 10000 / 18446744073709551616 then 0 else ratV (negB i 10000 1) (i.natAbs * 10000)

theorem scV_eq (i : Int) (h : scB i = true) : scV i = i * 10000 := by
  unfold scB at h
  rw [decide_eq_true_eq] at h
  have hi : i.natAbs * 10000 ≤ 9223372036854775808 := by omega
  unfold scV
  rw [if_neg (by omega)]
  unfold ratV negB
  by_cases hn : i < 0
  · simp [hn, wrap64]; omega
  · simp [hn, wrap64]; omega

theorem sc_over (i : Int) (h : 1 ≤ i.natAbs * 10000 / 18446744073709551616) : scB i = false ∧ scV i = 0 := by
  constructor
  · unfold scB; rw [decide_eq_false_iff_not]; omega
  · unfold scV; rw [if_pos h]

theorem sc_in (i : Int) (h : ¬ 1 ≤ i.natAbs * 10000 / 18446744073709551616) : ratB (negB i 10000 1) (i.natAbs * 10000) = scB i ∧ ratV (negB i 10000 1) (i.natAbs * 10000) = scV i := by
  constructor
  · unfold scB ratB negB
    have e1 : decide ((10000 : Int) < 0) = false := rfl
    have e2 : decide ((1 : Int) < 0) = false := rfl
    rw [e1, e2]
    by_cases hn : i < 0
    · rw [decide_eq_true hn]
      simp only [Bool.bne_false, if_true]
      rw [decide_eq_decide]; omega
    · rw [decide_eq_false hn]
      simp only [Bool.bne_false, Bool.false_eq_true, if_false]
      rw [decide_eq_decide]; omega
  · unfold scV; rw [if_neg h]

theorem ratio_scale (i : Int) (w : World) (hi : -9223372036854775808 ≤ i ∧ i ≤ 9223372036854775807) :
    Calls Tryz.prog 124 #[.int .i64 i, .int .i64 10000, .int .i64 1] w (RatPost (scV i) (scB i) w) := by
  by_cases h : 1 ≤ i.natAbs * 10000 / 18446744073709551616
  · rw [(sc_over i h).1, (sc_over i h).2]
    exact ratio_over i 10000 1 w hi (by omega) (by omega) h
  · rw [← (sc_in i h).1, ← (sc_in i h).2]
    have e0 : i.natAbs * (10000 : Int).natAbs / 18446744073709551616 = 0 := by
      rw [show (10000 : Int).natAbs = 10000 from rfl]; omega
    refine ratio_in i 10000 1 (i.natAbs * 10000) 0 w hi (by omega) (by omega) (by rw [e0]; decide) (fun w => ?_)
    rw [e0]
    have e1 : i.natAbs * (10000 : Int).natAbs % 18446744073709551616 = i.natAbs * 10000 := by
      rw [show (10000 : Int).natAbs = 10000 from rfl]; omega
    rw [e1]
    have := div64_low (i.natAbs * 10000) 1 w (by omega) (by omega) (by omega)
    rw [Nat.div_one, Nat.mod_one] at this
    exact this

set_option maxHeartbeats 4000000 in
theorem scaled_dec (i : Int) (s : ByteArray) (w : World) :
    Calls Tryz.prog 110 #[.agg #[.int .i64 3, .int .i64 i, .string s]] w (RatPost i true w) := by
  go_enter Tryz.func110, Tryz.ntmps110
  go_wp2
  go_ret2
  exact ⟨rfl, (Below.refl _ _).alloc (Nat.le_refl _) _⟩

set_option maxHeartbeats 4000000 in
theorem scaled_int (i : Int) (s : ByteArray) (w : World) (hi : -9223372036854775808 ≤ i ∧ i ≤ 9223372036854775807) :
    Calls Tryz.prog 110 #[.agg #[.int .i64 2, .int .i64 i, .string s]] w (RatPost (scV i) (scB i) w) := by
  have HR := Lib.hid (fun w => ratio_scale i w hi)
  clear hi
  generalize scV i = V at *
  generalize scB i = B at *
  go_enter Tryz.func110, Tryz.ntmps110
  go_wp2_with (go_at_call 124; (with_reducible refine (HR.out _).mono ?_); rintro e w' ⟨rfl, hb⟩)
  go_ret2
  exact ⟨rfl, Below.trans ((Below.refl _ _).alloc (Nat.le_refl _) _) (hb.mono (by simp))⟩

/-- What number makes: kind, number, error. -/
theorem number_any (k n : Int) (b : Bool) (w : World) :
    Calls Tryz.prog 111 #[.int .i64 k, .int .i64 n, .bool b] w (ResPost (if b then k else 0) (if b then n else 0) (if b then 0 else 4) w) := by
  cases b
  all_goals
    go_enter Tryz.func111, Tryz.ntmps111
    go_wp2
    refine bodyPost_ret ?_ rfl ⟨rfl, ?_⟩
    · simp [results, Tryz.results111, go_sem]
    · repeat (first | exact Below.refl _ _ | refine Below.alloc ?_ (by simp <;> omega) _ | refine Below.setCell ?_ (by simp <;> omega) _)

end Go.Proofs.YtippffjhkinfoaaGreatDoor
