/-
  The contracts of datum's small functions: what each returns, for all arguments; they make memory of their own alone.
-/
import Derived.Test.YtbjcebnahllnjaaDoorRows
import Derived.WalkKit
import Derived.WalkSpells
import Derived.WalkLawsBesides
import Derived.Lib.Hide
import Derived.Deep.RegionHeld3
import Derived.Deep.DeepCutAuto
namespace Go.Proofs.YtbjcebnahllnjaaDoor
open Go.RowKit

/-- The empty text. -/
abbrev noText : ByteArray := ⟨#[]⟩

theorem isNull_any (k i : Int) (s : ByteArray) (w : World) :
    Calls Tryd.prog 52 #[.agg #[.int .i64 k, .int .i64 i, .string s]] w fun e w' => e = .returned (.bool (k == 0)) ∧ w' = w.alloc (.cells #[.int .i64 k, .int .i64 i, .string s] 23) := by
  go_enter Tryd.func52, Tryd.ntmps52
  go_wp2
  go_ret
  exact ⟨rfl, rfl⟩

theorem isBool_any (k i : Int) (s : ByteArray) (w : World) :
    Calls Tryd.prog 69 #[.agg #[.int .i64 k, .int .i64 i, .string s]] w fun e w' => e = .returned (.bool (k == 1)) ∧ w' = w.alloc (.cells #[.int .i64 k, .int .i64 i, .string s] 23) := by
  go_enter Tryd.func69, Tryd.ntmps69
  go_wp2
  go_ret
  exact ⟨rfl, rfl⟩

/-- Is the kind a number's? -/
def numB (k : Int) : Bool := k == 2 || k == 3

theorem isNumber_any (k i : Int) (s : ByteArray) (w : World) :
    Calls Tryd.prog 70 #[.agg #[.int .i64 k, .int .i64 i, .string s]] w fun e w' => e = .returned (.bool (numB k)) ∧ w' = w.alloc (.cells #[.int .i64 k, .int .i64 i, .string s] 23) := by
  by_cases h : k = 2
  · have HR : Hid (numB k = true) := by unfold Hid numB; simp [h]
    have hb : (k == 2) = true := by simp [h]
    clear h
    go_enter Tryd.func70, Tryd.ntmps70
    go_wp2
    go_ret
    exact ⟨by rw [HR.out]; rfl, rfl⟩
  · have HR : Hid (numB k = (k == 3)) := by unfold Hid numB; simp [h]
    have hb : (k == 2) = false := by simp [h]
    clear h
    go_enter Tryd.func70, Tryd.ntmps70
    go_wp2
    go_ret
    exact ⟨by rw [HR.out]; rfl, rfl⟩

/-- A BOOL's number. -/
def bitOf (b : Bool) : Int := if b then 1 else 0

theorem truth_any (b : Bool) (w : World) :
    Calls Tryd.prog 51 #[.bool b] w fun e w' => e = .returned (.agg #[.int .i64 1, .int .i64 (bitOf b), .string noText]) ∧ w' = w.alloc (.cells #[.int .i64 1, .int .i64 (bitOf b), .string noText] 23) := by
  cases b
  · go_enter Tryd.func51, Tryd.ntmps51
    go_wp2
    exact bodyPost_ret (v := .agg #[.int .i64 1, .int .i64 0, .string noText]) (by simp [results, Tryd.results51, go_sem]) rfl ⟨rfl, by simp [go_sem, bitOf]⟩
  · go_enter Tryd.func51, Tryd.ntmps51
    go_wp2
    exact bodyPost_ret (v := .agg #[.int .i64 1, .int .i64 1, .string noText]) (by simp [results, Tryd.results51, go_sem]) rfl ⟨rfl, by simp [go_sem, bitOf]⟩

end Go.Proofs.YtbjcebnahllnjaaDoor
