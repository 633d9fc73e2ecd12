/-
  What DatumSums' walk rests on: whether a value is a number, and what a quotient and its rest come to.
-/
import Derived.Test.YtkobjlmnbfkgaaaDoorRel2
import Derived.Test.YtkobjlmnbfkgaaaDoorAppB
import Derived.Test.YtkobjlmnbfkgaaaDoorAppC
import Derived.Test.YtkobjlmnbfkgaaaDoorClo0
import Derived.Test.YtkobjlmnbfkgaaaDoorLaw8
namespace Go.Proofs.YtkobjlmnbfkgaaaDoor
open Go.RowKit

/-- Is it a number without a text? -/
theorem num_yes (k i : Int) (w : World) (h : k = 2 ∨ k = 3) :
    Calls Tryd.prog 21 #[.agg #[.int .i64 k, .int .i64 i, .string noText]] w fun e w' => e = .returned (.bool true) ∧ w' = w.alloc (.cells #[.int .i64 k, .int .i64 i, .string noText] 23) := by
  rcases h with rfl | rfl
  all_goals
    go_enter Tryd.func21, Tryd.ntmps21
    go_wp2
    go_ret
    exact ⟨rfl, rfl⟩

/-- What a quotient and its rest come to: P is the quotient times the divisor, R the rest; it has the dividend's sign and is smaller than the divisor. -/
def DivT (i1 i2 V P R : Int) : Prop := IntKind.i64.wrap (V * i2) = P ∧ IntKind.i64.wrap (i1 - P) = R ∧ i2 ≠ 0 ∧
  ((R = 0 ∧ i2 < 0) ∨ (R = 0 ∧ 0 < i2) ∨ ((R == 0) = false ∧ R < 0 ∧ i1 < 0 ∧ i2 < 0 ∧ i2 < R) ∨ ((R == 0) = false ∧ R < 0 ∧ i1 < 0 ∧ 0 < i2 ∧ -R < i2 ∧ IntKind.i64.wrap (-R) = -R) ∨ ((R == 0) = false ∧ 0 < R ∧ 0 < i1 ∧ i2 < 0 ∧ i2 < -R ∧ IntKind.i64.wrap (-R) = -R) ∨ ((R == 0) = false ∧ 0 < R ∧ 0 < i1 ∧ 0 < i2 ∧ R < i2))

end Go.Proofs.YtkobjlmnbfkgaaaDoor
