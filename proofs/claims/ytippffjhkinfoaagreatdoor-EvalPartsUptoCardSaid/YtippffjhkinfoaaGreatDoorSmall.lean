/-
  The contracts of datum's small functions: what each returns, for all arguments; they make memory of their own alone.
-/
import Derived.Test.YtippffjhkinfoaaGreatDoorRows
import Derived.WalkKit
import Derived.WalkSpells
import Derived.WalkLawsBesides
import Derived.Lib.Hide
import Derived.Deep.RegionHeld3
import Derived.Deep.DeepCutAuto
namespace Go.Proofs.YtippffjhkinfoaaGreatDoor
open Go.RowKit

/-- The empty text. -/
abbrev noText : ByteArray := ⟨#[]⟩

theorem isNull_any (k i : Int) (s : ByteArray) (w : World) :
    Calls Tryz.prog 86 #[.agg #[.int .i64 k, .int .i64 i, .string s]] w fun e w' => e = .returned (.bool (k == 0)) ∧ w' = w.alloc (.cells #[.int .i64 k, .int .i64 i, .string s] 27) := by
  go_enter Tryz.func86, Tryz.ntmps86
  go_wp2
  go_ret
  exact ⟨rfl, rfl⟩

theorem isBool_any (k i : Int) (s : ByteArray) (w : World) :
    Calls Tryz.prog 108 #[.agg #[.int .i64 k, .int .i64 i, .string s]] w fun e w' => e = .returned (.bool (k == 1)) ∧ w' = w.alloc (.cells #[.int .i64 k, .int .i64 i, .string s] 27) := by
  go_enter Tryz.func108, Tryz.ntmps108
  go_wp2
  go_ret
  exact ⟨rfl, rfl⟩

/-- Is the kind a number's? -/
def numB (k : Int) : Bool := k == 2 || k == 3

theorem isNumber_any (k i : Int) (s : ByteArray) (w : World) :
    Calls Tryz.prog 109 #[.agg #[.int .i64 k, .int .i64 i, .string s]] w fun e w' => e = .returned (.bool (numB k)) ∧ w' = w.alloc (.cells #[.int .i64 k, .int .i64 i, .string s] 27) := by
  by_cases h : k = 2
  · have HR : Hid (numB k = true) := by unfold Hid numB; simp [h]
    have hb : (k == 2) = true := by simp [h]
    clear h
    go_enter Tryz.func109, Tryz.ntmps109
    go_wp2
    go_ret
    exact ⟨by rw [HR.out]; rfl, rfl⟩
  · have HR : Hid (numB k = (k == 3)) := by unfold Hid numB; simp [h]
    have hb : (k == 2) = false := by simp [h]
    clear h
    go_enter Tryz.func109, Tryz.ntmps109
    go_wp2
    go_ret
    exact ⟨by rw [HR.out]; rfl, rfl⟩

/-- A BOOL's number. -/
def bitOf (b : Bool) : Int := if b then 1 else 0

theorem truth_any (b : Bool) (w : World) :
    Calls Tryz.prog 85 #[.bool b] w fun e w' => e = .returned (.agg #[.int .i64 1, .int .i64 (bitOf b), .string noText]) ∧ w' = w.alloc (.cells #[.int .i64 1, .int .i64 (bitOf b), .string noText] 27) := by
  cases b
  · go_enter Tryz.func85, Tryz.ntmps85
    go_wp2
    exact bodyPost_ret (v := .agg #[.int .i64 1, .int .i64 0, .string noText]) (by simp [results, Tryz.results85, go_sem]) rfl ⟨rfl, by simp [go_sem, bitOf]⟩
  · go_enter Tryz.func85, Tryz.ntmps85
    go_wp2
    exact bodyPost_ret (v := .agg #[.int .i64 1, .int .i64 1, .string noText]) (by simp [results, Tryz.results85, go_sem]) rfl ⟨rfl, by simp [go_sem, bitOf]⟩

end Go.Proofs.YtippffjhkinfoaaGreatDoor
