/-
  The contract of datum's ratio, over what Div64 returns.
-/
import Derived.Test.YtippffjhkinfoaaGreatDoorNum
namespace Go.Proofs.YtippffjhkinfoaaGreatDoor
open Go.RowKit

/-- The number that ratio returns of an amount, below 0 or not; and whether it has room. -/
def ratV (neg : Bool) (q : Nat) : Int := if neg then wrap64 (-wrap64 (q : Int)) else wrap64 (q : Int)
def ratB (neg : Bool) (q : Nat) : Bool := if neg then decide ((q : Int) ≤ 9223372036854775808) else decide ((q : Int) < 9223372036854775808)
/-- Is it below 0? -/
def negB (a b c : Int) : Bool := (decide (a < 0) != decide (b < 0)) != decide (c < 0)

theorem ret_ib {a b : Int} {c d : Bool} (h : a = b) (h2 : c = d) : Ending.returned (.tuple #[.int .i64 a, .bool c]) = .returned (.tuple #[.int .i64 b, .bool d]) := by rw [h, h2]
/-- What ratio leaves. -/
def RatPost (v : Int) (ok : Bool) (w : World) (e : Ending) (w' : World) : Prop := e = .returned (.tuple #[.int .i64 v, .bool ok]) ∧ Below w.heap.size w w'
/-- What Div64 leaves. -/
def DivPost (q r : Nat) (w : World) (e : Ending) (w' : World) : Prop := e = .returned (.tuple #[.int .u64 (q : Int), .int .u64 (r : Int)]) ∧ Below w.heap.size w w'

set_option maxHeartbeats 4000000 in
set_option maxRecDepth 100000 in
theorem ratio_over (a b c : Int) (w : World) (ha : -9223372036854775808 ≤ a ∧ a ≤ 9223372036854775807) (hb : -9223372036854775808 ≤ b ∧ b ≤ 9223372036854775807) (hc : -9223372036854775808 ≤ c ∧ c ≤ 9223372036854775807)
    (h : c.natAbs ≤ a.natAbs * b.natAbs / 18446744073709551616) :
    Calls Tryz.prog 124 #[.int .i64 a, .int .i64 b, .int .i64 c] w (RatPost 0 false w) := by
  have CA := Lib.hid (fun w => amount_any a w ha.1 ha.2)
  have CB := Lib.hid (fun w => amount_any b w hb.1 hb.2)
  have CC := Lib.hid (fun w => amount_any c w hc.1 hc.2)
  have la : a.natAbs < 18446744073709551616 := by omega
  have lb : b.natAbs < 18446744073709551616 := by omega
  have CM := Lib.hid (fun w => Tryz.bits_Mul64 a.natAbs b.natAbs la lb w)
  have hd : decide (((a.natAbs * b.natAbs / 18446744073709551616 : Nat) : Int) < ((c.natAbs : Nat) : Int)) = false := by simp only [decide_eq_false_iff_not]; omega
  clear ha hb hc la lb h
  revert CA CB CC CM hd
  generalize a.natAbs * b.natAbs / 18446744073709551616 = H
  generalize a.natAbs * b.natAbs % 18446744073709551616 = L
  generalize a.natAbs = A
  generalize b.natAbs = B
  generalize c.natAbs = C
  intro CA CB CC CM hd
  have hd2 : (H : Int) ≥ (C : Int) := by simpa using hd
  go_enter Tryz.func124, Tryz.ntmps124
  go_wp2_with (first
    | (go_at_call 55; (first | (with_reducible refine (CA.out _).mono ?_) | (with_reducible refine (CB.out _).mono ?_) | (with_reducible refine (CC.out _).mono ?_)); rintro e w' ⟨rfl, rfl⟩)
    | (go_at_call 130; (with_reducible refine (CM.out _).mono ?_); rintro e w' ⟨rfl, rfl⟩))
  go_ret2
  exact ⟨rfl, Below.refl _ _⟩

set_option maxHeartbeats 4000000 in
set_option maxRecDepth 100000 in
theorem ratio_in (a b c : Int) (q r : Nat) (w : World) (ha : -9223372036854775808 ≤ a ∧ a ≤ 9223372036854775807) (hb : -9223372036854775808 ≤ b ∧ b ≤ 9223372036854775807) (hc : -9223372036854775808 ≤ c ∧ c ≤ 9223372036854775807)
    (h : a.natAbs * b.natAbs / 18446744073709551616 < c.natAbs)
    (HD : ∀ w, Calls Tryz.prog 131 #[.int .u64 ((a.natAbs * b.natAbs / 18446744073709551616 : Nat) : Int), .int .u64 ((a.natAbs * b.natAbs % 18446744073709551616 : Nat) : Int), .int .u64 ((c.natAbs : Nat) : Int)] w (DivPost q r w)) :
    Calls Tryz.prog 124 #[.int .i64 a, .int .i64 b, .int .i64 c] w (RatPost (ratV (negB a b c) q) (ratB (negB a b c) q) w) := by
  have CA := Lib.hid (fun w => amount_any a w ha.1 ha.2)
  have CB := Lib.hid (fun w => amount_any b w hb.1 hb.2)
  have CC := Lib.hid (fun w => amount_any c w hc.1 hc.2)
  have la : a.natAbs < 18446744073709551616 := by omega
  have lb : b.natAbs < 18446744073709551616 := by omega
  have CM := Lib.hid (fun w => Tryz.bits_Mul64 a.natAbs b.natAbs la lb w)
  have CD := Lib.hid HD
  have hd : ((a.natAbs * b.natAbs / 18446744073709551616 : Nat) : Int) < ((c.natAbs : Nat) : Int) := by omega
  clear ha hb hc la lb h HD
  revert CA CB CC CM CD hd
  generalize a.natAbs * b.natAbs / 18446744073709551616 = H
  generalize a.natAbs * b.natAbs % 18446744073709551616 = L
  generalize a.natAbs = A
  generalize b.natAbs = B
  generalize c.natAbs = C
  intro CA CB CC CM CD hd
  have hd2 : ¬ (H : Int) ≥ (C : Int) := by omega
  cases h1 : decide (a < 0) <;> cases h2 : decide (b < 0) <;> cases h3 : decide (c < 0)
  all_goals
    go_enter Tryz.func124, Tryz.ntmps124
    go_wp2_with (first
      | (go_at_call 55; (first | (with_reducible refine (CA.out _).mono ?_) | (with_reducible refine (CB.out _).mono ?_) | (with_reducible refine (CC.out _).mono ?_)); rintro e w' ⟨rfl, rfl⟩)
      | (go_at_call 130; (with_reducible refine (CM.out _).mono ?_); rintro e w' ⟨rfl, rfl⟩)
      | (go_at_call 131; (with_reducible refine (CD.out _).mono ?_); rintro e w' ⟨rfl, hb⟩))
    go_ret2
    refine ⟨?_, hb⟩
    rw [show negB a b c = ((decide (a < 0) != decide (b < 0)) != decide (c < 0)) from rfl, h1, h2, h3]
    exact ret_ib (by simp [ratV]) (by simp [ratB])

end Go.Proofs.YtippffjhkinfoaaGreatDoor
