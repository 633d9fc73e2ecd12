/-
  The contract of the reference's Right at NULL and BOOL, and at INT and DEC without a text.
-/
import Derived.Test.YtkobjlmnbfkgaaaDoorRight
import Derived.Test.YtkobjlmnbfkgaaaDoorCells
import Derived.Test.YtkobjlmnbfkgaaaDoorPosts
namespace Go.Proofs.YtkobjlmnbfkgaaaDoor
open Go.RowKit

theorem ba_empty {s : ByteArray} (h : s.toList = []) : s = noText := by
  rw [ByteArray.toList_eq] at h
  cases s; simp at h; simp [h]

set_option maxHeartbeats 4000000 in
set_option maxRecDepth 100000 in
theorem refRight_text (k i : Int) (s : ByteArray) (hk : k = 0 ∨ k = 1 ∨ k = 2 ∨ k = 3) (hs : s ≠ noText) (w : World) :
    Calls Tryd.prog 10 #[.agg #[.int .i64 k, .int .i64 i, .string s]] w (RightPost false w) := by
  have e1 : ¬ s.toList = [] := fun h => hs (ba_empty h)
  have e3 : s.toList.isEmpty = false := by simpa using e1
  clear hs
  rcases hk with rfl | rfl | rfl | rfl
  all_goals
    go_enter Tryd.func10, Tryd.ntmps10
    go_wp2
    go_ret
    exact ⟨rfl, (Below.refl _ _).alloc (Nat.le_refl _) _⟩

set_option maxHeartbeats 4000000 in
set_option maxRecDepth 100000 in
theorem refRight_null (i : Int) (w : World) :
    Calls Tryd.prog 10 #[.agg #[.int .i64 0, .int .i64 i, .string noText]] w (RightPost (i == 0) w) := by
  go_enter Tryd.func10, Tryd.ntmps10
  go_wp2
  go_ret
  exact ⟨rfl, (Below.refl _ _).alloc (Nat.le_refl _) _⟩

set_option maxHeartbeats 4000000 in
set_option maxRecDepth 100000 in
theorem refRight_bool (i : Int) (w : World) :
    Calls Tryd.prog 10 #[.agg #[.int .i64 1, .int .i64 i, .string noText]] w (RightPost (i == 0 || i == 1) w) := by
  cases h : (i == 0)
  · go_enter Tryd.func10, Tryd.ntmps10
    go_wp2
    go_ret
    exact ⟨rfl, (Below.refl _ _).alloc (Nat.le_refl _) _⟩
  · go_enter Tryd.func10, Tryd.ntmps10
    go_wp2
    go_ret
    exact ⟨rfl, (Below.refl _ _).alloc (Nat.le_refl _) _⟩

end Go.Proofs.YtkobjlmnbfkgaaaDoor
