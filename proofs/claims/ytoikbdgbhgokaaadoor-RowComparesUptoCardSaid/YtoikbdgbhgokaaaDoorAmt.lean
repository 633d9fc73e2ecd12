/-
  The contract of datum's amount.
-/
import Derived.Test.YtoikbdgbhgokaaaDoorCells
import Derived.Test.YtoikbdgbhgokaaaDoorPosts
import Derived.IntWalk
import Derived.WalkSmall
namespace Go.Proofs.YtoikbdgbhgokaaaDoor
open Go.RowKit

theorem ret_u64 {a b : Int} (h : a = b) : Ending.returned (.int .u64 a) = .returned (.int .u64 b) := by rw [h]
theorem ret_u64_2 {a b c d : Int} (h : a = b) (h2 : c = d) : Ending.returned (.tuple #[.int .u64 a, .int .u64 c]) = .returned (.tuple #[.int .u64 b, .int .u64 d]) := by rw [h, h2]
theorem neg_amount (n : Int) (h0 : n < 0) (h1 : -9223372036854775808 ≤ n) : IntKind.u64.wrap (-IntKind.u64.wrap n) = -n := by
  rw [IntKind.wrap_u64, IntKind.wrap_u64]; omega

theorem amount_pos (n : Int) (w : World) (h0 : 0 ≤ n) (h1 : n ≤ 9223372036854775807) :
    Calls Tryd.prog 59 #[.int .i64 n] w fun e w' => e = .returned (.int .u64 n) ∧ w = w' := by
  go_enter Tryd.func59, Tryd.ntmps59
  go_wp2
  go_ret
  exact ⟨rfl, rfl⟩

theorem amount_neg (n : Int) (w : World) (h0 : n < 0) (h1 : -9223372036854775808 ≤ n) :
    Calls Tryd.prog 59 #[.int .i64 n] w fun e w' => e = .returned (.int .u64 (-n)) ∧ w = w' := by
  have HN := Lib.hid (neg_amount n h0 h1)
  go_enter Tryd.func59, Tryd.ntmps59
  go_wp2
  go_ret
  exact ⟨ret_u64 HN.out, rfl⟩

/-- The amount of a number. -/
theorem amount_any (n : Int) (w : World) (h0 : -9223372036854775808 ≤ n) (h1 : n ≤ 9223372036854775807) :
    Calls Tryd.prog 59 #[.int .i64 n] w fun e w' => e = .returned (.int .u64 (n.natAbs : Int)) ∧ w = w' := by
  by_cases h : n < 0
  · rw [show ((n.natAbs : Nat) : Int) = -n by omega]; exact amount_neg n w h h0
  · rw [show ((n.natAbs : Nat) : Int) = n by omega]; exact amount_pos n w (by omega) h1

theorem Blk.at {W : World} {cs : Array Value} {t : TypeId} {n : Nat} (h : W.heap.size = n) : Blk (W.alloc (.cells cs t)) n cs t := h ▸ Blk.new W cs t

end Go.Proofs.YtoikbdgbhgokaaaDoor
