/-
  The contracts of datum's not and join (AND and OR): what each returns, for all arguments; they make memory of their own alone.
-/
import Derived.Test.YtippffjhkinfoaaGreatDoorSmall
namespace Go.Proofs.YtippffjhkinfoaaGreatDoor
open Go.RowKit

/-- What AND (st = 0) and OR (st = 1) make: the kind, the number, the error. -/
def joinR (k1 i1 k2 i2 st : Int) : Int × Int × Int :=
  if (k1 == 1) = false ∧ (k1 == 0) = false then (0, 0, 5)
  else if (k2 == 1) = false ∧ (k2 == 0) = false then (0, 0, 5)
  else if (k1 == 1) = true ∧ (i1 == st) = true then (1, bitOf (st == 1), 0)
  else if (k2 == 1) = true ∧ (i2 == st) = true then (1, bitOf (st == 1), 0)
  else if (k1 == 0) = true then (0, 0, 0)
  else if (k2 == 0) = true then (0, 0, 0)
  else (1, bitOf (st == 0), 0)

set_option maxHeartbeats 8000000 in
set_option maxRecDepth 100000 in
theorem join_and (k1 i1 : Int) (s1 : ByteArray) (k2 i2 : Int) (s2 : ByteArray) (w : World) :
    Calls Tryz.prog 84 #[.agg #[.int .i64 k1, .int .i64 i1, .string s1], .agg #[.int .i64 k2, .int .i64 i2, .string s2], .int .i64 0] w fun e w' =>
      e = .returned (.tuple #[.agg #[.int .i64 (joinR k1 i1 k2 i2 0).1, .int .i64 (joinR k1 i1 k2 i2 0).2.1, .string noText], .int .i64 (joinR k1 i1 k2 i2 0).2.2]) ∧ Below w.heap.size w w' := by
  obtain ⟨R, hR⟩ : ∃ R, R = joinR k1 i1 k2 i2 0 := ⟨_, rfl⟩
  rw [← hR]
  cases h1 : (k1 == 1) <;> cases h2 : (k1 == 0) <;> cases h3 : (k2 == 1) <;> cases h4 : (k2 == 0) <;> cases h5 : (i1 == 0) <;> cases h6 : (i2 == 0) <;> simp [joinR, h1, h2, h3, h4, h5, h6, bitOf] at hR <;> subst hR
  all_goals
    go_enter Tryz.func84, Tryz.ntmps84
    go_wp2_with (first
      | (go_at_call 108; refine (isBool_any _ _ _ _).mono ?_; rintro e w' ⟨rfl, rfl⟩)
      | (go_at_call 86; refine (isNull_any _ _ _ _).mono ?_; rintro e w' ⟨rfl, rfl⟩)
      | (go_at_call 85; refine (truth_any _ _).mono ?_; rintro e w' ⟨rfl, rfl⟩))
    refine bodyPost_ret ?_ rfl ⟨rfl, ?_⟩
    · simp [results, Tryz.results84, go_sem, bitOf]
    · repeat (first | exact Below.refl _ _ | refine Below.alloc ?_ (by simp <;> omega) _ | refine Below.setCell ?_ (by simp <;> omega) _)

end Go.Proofs.YtippffjhkinfoaaGreatDoor
