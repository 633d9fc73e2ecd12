/-
  The contracts of datum's amount, and of Div64 where the upper word is 0.
-/
import Derived.Test.YtippffjhkinfoaaGreatDoorCells
import Derived.Test.YtippffjhkinfoaaGreatDoorPosts
import Derived.Test.YtippffjhkinfoaaGreatDoorShelf
import Derived.IntWalk
import Derived.Deep.QuietTactic
import Derived.BigQuiet
import Derived.WalkSmall
namespace Go.Proofs.YtippffjhkinfoaaGreatDoor
open Go.RowKit

theorem ret_u64 {a b : Int} (h : a = b) : Ending.returned (.int .u64 a) = .returned (.int .u64 b) := by rw [h]
theorem ret_u64_2 {a b c d : Int} (h : a = b) (h2 : c = d) : Ending.returned (.tuple #[.int .u64 a, .int .u64 c]) = .returned (.tuple #[.int .u64 b, .int .u64 d]) := by rw [h, h2]
theorem neg_amount (n : Int) (h0 : n < 0) (h1 : -9223372036854775808 ≤ n) : IntKind.u64.wrap (-IntKind.u64.wrap n) = -n := by
  rw [IntKind.wrap_u64, IntKind.wrap_u64]; omega

theorem amount_pos (n : Int) (w : World) (h0 : 0 ≤ n) (h1 : n ≤ 9223372036854775807) :
    Calls Tryz.prog 55 #[.int .i64 n] w fun e w' => e = .returned (.int .u64 n) ∧ w = w' := by
  go_enter Tryz.func55, Tryz.ntmps55
  go_wp2
  go_ret
  exact ⟨rfl, rfl⟩

theorem amount_neg (n : Int) (w : World) (h0 : n < 0) (h1 : -9223372036854775808 ≤ n) :
    Calls Tryz.prog 55 #[.int .i64 n] w fun e w' => e = .returned (.int .u64 (-n)) ∧ w = w' := by
  have HN := Lib.hid (neg_amount n h0 h1)
  go_enter Tryz.func55, Tryz.ntmps55
  go_wp2
  go_ret
  exact ⟨ret_u64 HN.out, rfl⟩

/-- The amount of a number. -/
theorem amount_any (n : Int) (w : World) (h0 : -9223372036854775808 ≤ n) (h1 : n ≤ 9223372036854775807) :
    Calls Tryz.prog 55 #[.int .i64 n] w fun e w' => e = .returned (.int .u64 (n.natAbs : Int)) ∧ w = w' := by
  by_cases h : n < 0
  · rw [show ((n.natAbs : Nat) : Int) = -n by omega]; exact amount_neg n w h h0
  · rw [show ((n.natAbs : Nat) : Int) = n by omega]; exact amount_pos n w (by omega) h1

set_option maxHeartbeats 4000000 in
set_option maxRecDepth 100000 in
theorem div64_low (lo y : Nat) (w : World) (hl : lo < 18446744073709551616) (hy : 0 < y) (hy2 : y < 18446744073709551616) :
    Calls Tryz.prog 131 #[.int .u64 0, .int .u64 lo, .int .u64 y] w fun e w' => e = .returned (.tuple #[.int .u64 ((lo / y : Nat) : Int), .int .u64 ((lo % y : Nat) : Int)]) ∧ Below w.heap.size w w' := by
  have b1 : (0 : Int) ≤ (lo : Int) := by omega
  have b2 : (lo : Int) ≤ 18446744073709551615 := by omega
  have b3 : (0 : Int) < (y : Int) := by omega
  have b4 : (1 : Int) ≤ (y : Int) := by omega
  have b5 : ((y : Int) == 0) = false := by simp; omega
  have b6 : ¬ (y : Int) ≤ 0 := by omega
  have q1 : (lo : Int) / (y : Int) = ((lo / y : Nat) : Int) := (Int.natCast_ediv lo y).symm
  have q2 : (lo : Int) % (y : Int) = ((lo % y : Nat) : Int) := (Int.natCast_emod lo y).symm
  have q3 : lo / y ≤ lo := Nat.div_le_self lo y
  have HQ1 : Hid (IntKind.u64.wrap ((lo : Int) / (y : Int)) = ((lo / y : Nat) : Int)) := Lib.hid (by rw [q1]; exact IntWalk.u64_in _ ⟨Int.natCast_nonneg _, Int.le_trans (Int.ofNat_le.mpr q3) b2⟩)
  have HQ2 := Lib.hid q2
  clear hl hy hy2 q1 q2 q3
  go_enter Tryz.func131, Tryz.ntmps131
  go_wp2
  go_quiet (fail)
  go_wp2
  go_ret2
  exact ⟨ret_u64_2 HQ1.out HQ2.out, below_drewN (Below.refl _ _) _⟩

end Go.Proofs.YtippffjhkinfoaaGreatDoor
