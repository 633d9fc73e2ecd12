/-
  Right at values without a text that may be.
-/
import Derived.Test.YtkobjlmnbfkgaaaDoorRight
import Derived.Test.YtkobjlmnbfkgaaaDoorPosts
namespace Go.Proofs.YtkobjlmnbfkgaaaDoor
open Go.RowKit

theorem right_post0 (k i : Int) (h : okSmall k i) : ∀ w : World, Calls Tryd.prog 9 #[.agg #[.int .i64 k, .int .i64 i, .string noText]] w (RightPost true w) :=
  fun w => (right_yes k i w h).mono fun e w' ⟨he, hw⟩ => ⟨he, by rw [hw]; exact (Below.refl _ _).alloc (Nat.le_refl _) _⟩


end Go.Proofs.YtkobjlmnbfkgaaaDoor
