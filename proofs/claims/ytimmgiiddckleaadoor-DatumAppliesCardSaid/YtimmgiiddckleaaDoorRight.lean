/-
  The contract of datum's Right at NULL, BOOL, INT and DEC, and of arity; no other condition; they make memory of their own alone.
-/
import Derived.Test.YtimmgiiddckleaaDoorSmall
namespace Go.Proofs.YtimmgiiddckleaaDoor
open Go.RowKit

/-- A value without a text that may be. -/
def okSmall (k i : Int) : Prop := (k = 0 ∧ i = 0) ∨ (k = 1 ∧ (i = 0 ∨ i = 1)) ∨ k = 2 ∨ k = 3

set_option maxHeartbeats 8000000 in
set_option maxRecDepth 100000 in
theorem right_yes (k i : Int) (w : World) (h : okSmall k i) :
    Calls Tryd.prog 17 #[.agg #[.int .i64 k, .int .i64 i, .string noText]] w fun e w' => e = .returned (.bool true) ∧ w' = w.alloc (.cells #[.int .i64 k, .int .i64 i, .string noText] 24) := by
  rcases h with ⟨rfl, rfl⟩ | ⟨rfl, rfl | rfl⟩ | rfl | rfl
  all_goals
    go_enter Tryd.func17, Tryd.ntmps17
    go_wp2
    go_ret
    exact ⟨rfl, rfl⟩

/-- How many arguments an operator has. -/
def arityR (op : Int) : Int :=
  if op = 1 ∨ op = 2 ∨ op = 15 ∨ op = 18 ∨ op = 19 ∨ op = 20 then 1
  else if 3 ≤ op ∧ op ≤ 14 then 2 else 0

set_option maxHeartbeats 8000000 in
theorem arity_one (op : Int) (w : World) (h : op = 1 ∨ op = 2 ∨ op = 15 ∨ op = 18 ∨ op = 19 ∨ op = 20) :
    Calls Tryd.prog 16 #[.int .i64 op] w fun e w' => e = .returned (.int .i64 1) ∧ w' = w := by
  rcases h with rfl | rfl | rfl | rfl | rfl | rfl
  all_goals
    go_enter Tryd.func16, Tryd.ntmps16
    go_wp2
    go_ret
    exact ⟨rfl, rfl⟩

set_option maxHeartbeats 8000000 in
theorem arity_two (op : Int) (w : World) (h : op = 3 ∨ op = 4 ∨ op = 5 ∨ op = 6 ∨ op = 7 ∨ op = 8 ∨ op = 9 ∨ op = 10 ∨ op = 11 ∨ op = 12 ∨ op = 13 ∨ op = 14) :
    Calls Tryd.prog 16 #[.int .i64 op] w fun e w' => e = .returned (.int .i64 2) ∧ w' = w := by
  rcases h with rfl | rfl | rfl | rfl | rfl | rfl | rfl | rfl | rfl | rfl | rfl | rfl
  all_goals
    go_enter Tryd.func16, Tryd.ntmps16
    go_wp2
    go_ret
    exact ⟨rfl, rfl⟩

end Go.Proofs.YtimmgiiddckleaaDoor
