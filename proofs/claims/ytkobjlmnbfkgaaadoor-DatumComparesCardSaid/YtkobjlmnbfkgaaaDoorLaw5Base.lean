/-
  What the walk of the law DatumCompares lacks: a block that another block is written beside, and the law's own function is.
-/
import Derived.Test.YtkobjlmnbfkgaaaDoorRel2
import Derived.Test.YtkobjlmnbfkgaaaDoorAppC
import Derived.Test.YtkobjlmnbfkgaaaDoorAppD
import Derived.Deep.RegionWith
namespace Go.Proofs.YtkobjlmnbfkgaaaDoor
open Go.RowKit

theorem Blk.set {w : World} {b : Nat} {cs : Array Value} {t : TypeId} (h : Blk w b cs t) (i : Nat) (u : Value) : Blk (w.setCell ⟨b, i, none⟩ u) b (cs.setIfInBounds i u) t := by
  unfold Blk at h ⊢
  simp [World.setCell, Array.getElem?_modify, h]
theorem Blk.setOther {w : World} {b b' : Nat} {cs : Array Value} {t : TypeId} (h : Blk w b cs t) (hne : b' ≠ b) (i : Nat) (u : Value) : Blk (w.setCell ⟨b', i, none⟩ u) b cs t := by
  unfold Blk at h ⊢
  simp [World.setCell, Array.getElem?_modify, hne, h]

/-- What has been told of the comparisons ahead of the k-th, the order being n. -/
def gotB (n : Int) (k : Nat) : Array Value := #[.bool (decide (0 < k) && holdsB 7 n), .bool (decide (1 < k) && holdsB 8 n), .bool (decide (2 < k) && holdsB 9 n), .bool (decide (3 < k) && holdsB 10 n), .bool (decide (4 < k) && holdsB 11 n), .bool (decide (5 < k) && holdsB 12 n)]

set_option maxHeartbeats 4000000 in
set_option maxRecDepth 100000 in
theorem isOk_any (i : Int) (w : World) :
    Calls Tryd.prog 17 #[.agg #[.int .i64 1, .int .i64 i, .string noText], .int .i64 0] w fun r w' => r = .returned (.bool (i == 1)) ∧ Below w.heap.size w w' := by
  go_enter Tryd.func17, Tryd.ntmps17
  go_wp2
  all_goals
    go_ret
    exact ⟨by simp [*], (Below.refl _ _).alloc (Nat.le_refl _) _⟩

end Go.Proofs.YtkobjlmnbfkgaaaDoor
