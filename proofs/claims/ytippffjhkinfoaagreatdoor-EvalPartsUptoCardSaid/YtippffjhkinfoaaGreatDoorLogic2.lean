/-
  The contracts of datum's join as OR, and of not: what each returns, for all arguments; they make memory of their own alone.
-/
import Derived.Test.YtippffjhkinfoaaGreatDoorLogic
namespace Go.Proofs.YtippffjhkinfoaaGreatDoor
open Go.RowKit

theorem kind3 (k : Int) : ((k == 1) = true ∧ (k == 0) = false) ∨ ((k == 1) = false ∧ (k == 0) = true) ∨ ((k == 1) = false ∧ (k == 0) = false) := by
  by_cases h : k = 1
  · left; simp [h]
  · by_cases h2 : k = 0
    · right; left; simp [h2]
    · right; right; simp [h, h2]

set_option maxHeartbeats 8000000 in
set_option maxRecDepth 100000 in
theorem join_or (k1 i1 : Int) (s1 : ByteArray) (k2 i2 : Int) (s2 : ByteArray) (w : World) :
    Calls Tryz.prog 84 #[.agg #[.int .i64 k1, .int .i64 i1, .string s1], .agg #[.int .i64 k2, .int .i64 i2, .string s2], .int .i64 1] w fun e w' =>
      e = .returned (.tuple #[.agg #[.int .i64 (joinR k1 i1 k2 i2 1).1, .int .i64 (joinR k1 i1 k2 i2 1).2.1, .string noText], .int .i64 (joinR k1 i1 k2 i2 1).2.2]) ∧ Below w.heap.size w w' := by
  obtain ⟨R, hR⟩ : ∃ R, R = joinR k1 i1 k2 i2 1 := ⟨_, rfl⟩
  rw [← hR]
  rcases kind3 k1 with ⟨h1, h2⟩ | ⟨h1, h2⟩ | ⟨h1, h2⟩ <;> rcases kind3 k2 with ⟨h3, h4⟩ | ⟨h3, h4⟩ | ⟨h3, h4⟩ <;> cases h5 : (i1 == 1) <;> cases h6 : (i2 == 1) <;> simp [joinR, h1, h2, h3, h4, h5, h6, bitOf] at hR <;> subst hR
  all_goals
    go_enter Tryz.func84, Tryz.ntmps84
    go_wp2_with (first
      | (go_at_call 108; refine (isBool_any _ _ _ _).mono ?_; rintro e w' ⟨rfl, rfl⟩)
      | (go_at_call 86; refine (isNull_any _ _ _ _).mono ?_; rintro e w' ⟨rfl, rfl⟩)
      | (go_at_call 85; refine (truth_any _ _).mono ?_; rintro e w' ⟨rfl, rfl⟩))
    refine bodyPost_ret ?_ rfl ⟨rfl, ?_⟩
    · simp [results, Tryz.results84, go_sem, bitOf]
    · repeat (first | exact Below.refl _ _ | refine Below.alloc ?_ (by simp <;> omega) _ | refine Below.setCell ?_ (by simp <;> omega) _)

/-- What NOT makes: the kind, the number, the error. -/
def notR (k i : Int) : Int × Int × Int :=
  if (k == 0) = true then (0, 0, 0) else if (k == 1) = true then (1, bitOf (i == 0), 0) else (0, 0, 5)

set_option maxHeartbeats 8000000 in
theorem not_any (k i : Int) (s : ByteArray) (w : World) :
    Calls Tryz.prog 83 #[.agg #[.int .i64 k, .int .i64 i, .string s]] w fun e w' =>
      e = .returned (.tuple #[.agg #[.int .i64 (notR k i).1, .int .i64 (notR k i).2.1, .string noText], .int .i64 (notR k i).2.2]) ∧ Below w.heap.size w w' := by
  obtain ⟨R, hR⟩ : ∃ R, R = notR k i := ⟨_, rfl⟩
  rw [← hR]
  rcases kind3 k with ⟨h1, h2⟩ | ⟨h1, h2⟩ | ⟨h1, h2⟩ <;> cases h3 : (i == 0) <;> simp [notR, h1, h2, h3, bitOf] at hR <;> subst hR
  all_goals
    go_enter Tryz.func83, Tryz.ntmps83
    go_wp2_with (first
      | (go_at_call 108; refine (isBool_any _ _ _ _).mono ?_; rintro e w' ⟨rfl, rfl⟩)
      | (go_at_call 86; refine (isNull_any _ _ _ _).mono ?_; rintro e w' ⟨rfl, rfl⟩)
      | (go_at_call 85; refine (truth_any _ _).mono ?_; rintro e w' ⟨rfl, rfl⟩))
    refine bodyPost_ret ?_ rfl ⟨rfl, ?_⟩
    · simp [results, Tryz.results83, go_sem, bitOf]
    · repeat (first | exact Below.refl _ _ | refine Below.alloc ?_ (by simp <;> omega) _ | refine Below.setCell ?_ (by simp <;> omega) _)

end Go.Proofs.YtippffjhkinfoaaGreatDoor
