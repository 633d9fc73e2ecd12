/-
  Sums in 128 bits: what sumOf, plus, negative and number return, for all numbers; number: of sums below 2^127.
-/
import Derived.Test.YtciijaejldfcaaaBase
import Derived.Laws.Externs
import Derived.Shelf.Spec.BitsCarry
import Derived.RegionTactic
import Derived.Deep.RegionWith
namespace Go.Proofs.Ytciijaejldfcaaa
open Go.RowKit

/-- The upper and the lower half of a number in 128 bits. -/
def hiS (s : Int) : Int := s / 18446744073709551616 % 18446744073709551616
def loS (s : Int) : Int := s % 18446744073709551616
/-- A sum as a value. -/
def sumV (s : Int) : Value := .agg #[.int .u64 (hiS s), .int .u64 (loS s)]

theorem hiS_pos (s : Int) : 0 ≤ hiS s := Int.emod_nonneg _ (by decide)
theorem loS_pos (s : Int) : 0 ≤ loS s := Int.emod_nonneg _ (by decide)
theorem hiS_lt (s : Int) : hiS s < 18446744073709551616 := Int.emod_lt_of_pos _ (by decide)
theorem loS_lt (s : Int) : loS s < 18446744073709551616 := Int.emod_lt_of_pos _ (by decide)

theorem lo_add (a b : Int) : loS (a + b) = (loS a + loS b + 0) % 18446744073709551616 := by unfold loS; omega
theorem hi_add (a b : Int) : hiS (a + b) = (hiS a + hiS b + (loS a + loS b + 0) / 18446744073709551616) % 18446744073709551616 := by unfold hiS loS; omega
theorem carry_le (a b : Int) : 0 ≤ (loS a + loS b + 0) / 18446744073709551616 ∧ (loS a + loS b + 0) / 18446744073709551616 ≤ 1 := by
  have := loS_pos a; have := loS_pos b; have := loS_lt a; have := loS_lt b; omega

theorem run_add (x y c : Int) (hx : 0 ≤ x) (hy : 0 ≤ y) (hc0 : 0 ≤ c) (hc : c ≤ 1) (w : World) :
    (callFunc 81 #[.int .u64 x, .int .u64 y, .int .u64 c]).run Try.prog w = .ok (.value (.tuple #[.int .u64 ((x + y + c) % 18446744073709551616), .int .u64 ((x + y + c) / 18446744073709551616)])) w := by
  rw [run_callFunc_extern Try.func81 (by kernel_rfl) (by kernel_rfl) (by kernel_rfl) (e := add64Entry) (by kernel_rfl), run_add64 x y c hx hy hc0 hc]
  rfl
theorem run_sub (x y c : Int) (hx : 0 ≤ x) (hy : 0 ≤ y) (hy2 : y < 18446744073709551616) (hc0 : 0 ≤ c) (hc : c ≤ 1) (w : World) :
    (callFunc 59 #[.int .u64 x, .int .u64 y, .int .u64 c]).run Try.prog w = .ok (.value (.tuple #[.int .u64 ((x + 18446744073709551616 - y - c) % 18446744073709551616), .int .u64 (if x < y + c then 1 else 0)])) w := by
  obtain ⟨X, rfl⟩ := Int.eq_ofNat_of_zero_le hx
  obtain ⟨Y, rfl⟩ := Int.eq_ofNat_of_zero_le hy
  obtain ⟨C, rfl⟩ := Int.eq_ofNat_of_zero_le hc0
  rw [run_callFunc_extern Try.func59 (by kernel_rfl) (by kernel_rfl) (by kernel_rfl) (e := sub64Entry) (by kernel_rfl), run_sub64 X Y C (by omega)]
  simp only [Result.andThen]
  have h1 : (((X + 18446744073709551616 - Y - C) % 18446744073709551616 : Nat) : Int) = (X + 18446744073709551616 - Y - C) % 18446744073709551616 := by omega
  have h2 : ((if X < Y + C then 1 else 0 : Nat) : Int) = if (X : Int) < Y + C then 1 else 0 := by
    by_cases h : X < Y + C
    · rw [if_pos h, if_pos (by omega)]; rfl
    · rw [if_neg h, if_neg (by omega)]; rfl
  rw [h1, h2]

set_option maxHeartbeats 1000000 in
theorem plus_any (a b : Int) (w : World) : Calls Try.prog 67 #[sumV a, sumV b] w fun e w' => e = .returned (sumV (a + b)) ∧ Gr w.heap.size w w' := by
  have k1 := fun w => run_add (loS a) (loS b) 0 (loS_pos a) (loS_pos b) (by decide) (by decide) w
  have k2 := fun w => run_add (hiS a) (hiS b) ((loS a + loS b + 0) / 18446744073709551616) (hiS_pos a) (hiS_pos b) (carry_le a b).1 (carry_le a b).2 w
  have e1 := Lib.hid (lo_add a b)
  have e2 := Lib.hid (hi_add a b)
  have HR : Hid (sumV (a + b) = .agg #[.int .u64 ((hiS a + hiS b + (loS a + loS b + 0) / 18446744073709551616) % 18446744073709551616), .int .u64 ((loS a + loS b + 0) % 18446744073709551616)]) := by
    unfold Hid sumV; rw [e1.out, e2.out]
  clear e1 e2
  revert k1 k2 HR
  generalize sumV (a + b) = V
  unfold sumV
  generalize (loS a + loS b + 0) / 18446744073709551616 = C
  generalize (loS a + loS b + 0) % 18446744073709551616 = L
  generalize (hiS a + hiS b + C) % 18446744073709551616 = H
  generalize (hiS a + hiS b + C) / 18446744073709551616 = C2
  generalize hiS a = ah
  generalize hiS b = bh
  generalize loS a = al
  generalize loS b = bl
  intro k1 k2 HR
  go_enter Try.func67, Try.ntmps67
  go_wp2
  refine bodyPost_ret (v := .agg #[.int .u64 H, .int .u64 L]) (by simp [results, Try.results67, go_sem]) rfl ⟨by rw [HR.out], ?_⟩
  exact (((Gr.refl _ _).alloc (Nat.le_refl _) _).alloc (by simp) _).alloc (by simp; omega) _

theorem lo_neg (a : Int) : loS (-a) = (0 + 18446744073709551616 - loS a - 0) % 18446744073709551616 := by unfold loS; omega
theorem hi_neg (a : Int) : hiS (-a) = (0 + 18446744073709551616 - hiS a - (if 0 < loS a + 0 then 1 else 0)) % 18446744073709551616 := by
  unfold hiS loS
  split <;> omega

set_option maxHeartbeats 1000000 in
theorem negative_any (a : Int) (w : World) : Calls Try.prog 37 #[sumV a] w fun e w' => e = .returned (sumV (-a)) ∧ Gr w.heap.size w w' := by
  have k1 := fun w => run_sub 0 (loS a) 0 (by decide) (loS_pos a) (loS_lt a) (by decide) (by decide) w
  have k2 := fun w => run_sub 0 (hiS a) (if 0 < loS a + 0 then 1 else 0) (by decide) (hiS_pos a) (hiS_lt a) (by split <;> decide) (by split <;> decide) w
  have e1 := Lib.hid (lo_neg a)
  have e2 := Lib.hid (hi_neg a)
  have HR : Hid (sumV (-a) = .agg #[.int .u64 ((0 + 18446744073709551616 - hiS a - (if 0 < loS a + 0 then 1 else 0)) % 18446744073709551616), .int .u64 ((0 + 18446744073709551616 - loS a - 0) % 18446744073709551616)]) := by
    unfold Hid sumV; rw [e1.out, e2.out]
  clear e1 e2
  revert k1 k2 HR
  generalize sumV (-a) = V
  unfold sumV
  generalize (if 0 < loS a + 0 then (1 : Int) else 0) = C
  generalize (0 + 18446744073709551616 - loS a - 0) % 18446744073709551616 = L
  generalize (0 + 18446744073709551616 - hiS a - C) % 18446744073709551616 = H
  generalize (if 0 < hiS a + C then (1 : Int) else 0) = C2
  generalize hiS a = ah
  generalize loS a = al
  intro k1 k2 HR
  go_enter Try.func37, Try.ntmps37
  go_wp2
  refine bodyPost_ret (v := .agg #[.int .u64 H, .int .u64 L]) (by simp [results, Try.results37, go_sem]) rfl ⟨by rw [HR.out], ?_⟩
  exact ((Gr.refl _ _).alloc (Nat.le_refl _) _).alloc (by simp) _

theorem wrapU (x : Int) : IntKind.u64.wrap x = x % 18446744073709551616 := by simp [IntKind.wrap, IntKind.bits, IntKind.signed]
theorem shr63 (n : Int) (h0 : -9223372036854775808 ≤ n) (h1 : n ≤ 9223372036854775807) : IntKind.u64.wrap (n / 9223372036854775808) = hiS n := by
  rw [wrapU]; unfold hiS; omega

set_option maxHeartbeats 1000000 in
theorem sumOf_any (n : Int) (w : World) (h0 : -9223372036854775808 ≤ n) (h1 : n ≤ 9223372036854775807) : Calls Try.prog 44 #[.int .i64 n] w fun e w' => e = .returned (sumV n) ∧ Gr w.heap.size w w' := by
  go_enter Try.func44, Try.ntmps44
  go_wp2
  refine bodyPost_ret (v := .agg #[.int .u64 (hiS n), .int .u64 (loS n)]) ?_ rfl ⟨rfl, ?_⟩
  · simp [results, Try.results44, go_sem]
    exact ⟨shr63 n h0 h1, wrapU n⟩
  · exact (Gr.refl _ _).alloc (Nat.le_refl _) _

theorem run_eq_sum (a b c d : Int) (w : World) :
    (binOp .eql 56 (.agg #[.int .u64 a, .int .u64 b]) (.agg #[.int .u64 c, .int .u64 d])).run Try.prog w = .ok (.bool (decide (a = c ∧ b = d))) w := by
  go_simp
  by_cases h1 : a = c
  · by_cases h2 : b = d
    · simp [h1, h2]
    · simp [h1, h2]
  · simp [h1]

/-- A sum that fits is the number that its lower half is; that of no other sum is it. -/
theorem fits_iff (a : Int) (h0 : -170141183460469231731687303715884105728 ≤ a) (h1 : a < 170141183460469231731687303715884105728) :
    (hiS (IntKind.i64.wrap (loS a)) = hiS a ∧ loS (IntKind.i64.wrap (loS a)) = loS a) ↔ (-9223372036854775808 ≤ a ∧ a ≤ 9223372036854775807) := by
  have hw : IntKind.i64.wrap (loS a) = if loS a < 9223372036854775808 then loS a else loS a - 18446744073709551616 := by
    have := loS_pos a; have := loS_lt a
    simp only [IntKind.wrap, IntKind.bits, IntKind.signed]
    simp
    split <;> split <;> omega
  rw [hw]
  unfold hiS loS
  split <;> omega
theorem fits_num (a : Int) (h0 : -9223372036854775808 ≤ a) (h1 : a ≤ 9223372036854775807) : IntKind.i64.wrap (loS a) = a := by
  have hw : IntKind.i64.wrap (loS a) = if loS a < 9223372036854775808 then loS a else loS a - 18446744073709551616 := by
    have := loS_pos a; have := loS_lt a
    simp only [IntKind.wrap, IntKind.bits, IntKind.signed]
    simp
    split <;> split <;> omega
  rw [hw]
  unfold loS
  split <;> omega
theorem wrap_in (x : Int) : -9223372036854775808 ≤ IntKind.i64.wrap x ∧ IntKind.i64.wrap x ≤ 9223372036854775807 := by
  simp only [IntKind.wrap, IntKind.bits, IntKind.signed]
  simp
  split <;> omega

theorem sumOf_wrap (a : Int) (W : World) : Calls Try.prog 44 #[.int .i64 (IntKind.i64.wrap (loS a))] W fun e w' => e = .returned (sumV (IntKind.i64.wrap (loS a))) ∧ Gr W.heap.size W w' := by
  have h := wrap_in (loS a)
  generalize IntKind.i64.wrap (loS a) = m at *
  exact sumOf_any m W h.1 h.2

set_option maxRecDepth 100000 in
set_option maxHeartbeats 1000000 in
theorem number_any (a : Int) (w : World) (h0 : -170141183460469231731687303715884105728 ≤ a) (h1 : a < 170141183460469231731687303715884105728) :
    Calls Try.prog 68 #[sumV a] w fun e w' => e = .returned (.tuple #[.int .i64 (IntKind.i64.wrap (loS a)), .bool (fitsB a)]) ∧ Gr w.heap.size w w' := by
  have k1 : ∀ w, (binOp .eql 56 (.agg #[.int .u64 (hiS (IntKind.i64.wrap (loS a))), .int .u64 (loS (IntKind.i64.wrap (loS a)))]) (.agg #[.int .u64 (hiS a), .int .u64 (loS a)])).run Try.prog w = .ok (.bool (fitsB a)) w :=
    fun w => (run_eq_sum _ _ _ _ w).trans (by rw [decide_eq_decide.mpr (fits_iff a h0 h1)]; rfl)
  have HX : Hid (∀ W, Calls Try.prog 44 #[.int .i64 (IntKind.i64.wrap (loS a))] W fun e w' => e = .returned (sumV (IntKind.i64.wrap (loS a))) ∧ Gr W.heap.size W w') := sumOf_wrap a
  clear h0 h1
  unfold sumV at *
  revert k1 HX
  generalize fitsB a = D
  generalize hm : IntKind.i64.wrap (loS a) = m
  revert hm
  generalize hiS m = bh
  generalize loS m = bl
  generalize hiS a = ah
  generalize loS a = al
  intro hm k1 HX
  go_enter Try.func68, Try.ntmps68
  go_wp2
  go_region_with (go_at_call 44; refine (HX.out _).mono ?_; rintro e w1 ⟨rfl, hb1⟩; have bX := Blk.below (Blk.drew (Blk.new w #[.int .u64 ah, .int .u64 al] 56)) hb1.toBelow; have c0 := Blk.cell bX 0; have c1 := Blk.cell bX 1; simp only [List.getElem?_toArray, List.getElem?_cons_zero, List.getElem?_cons_succ] at c0 c1)
  all_goals
    go_wp2
    go_ret2
    exact ⟨rfl, Gr.trans ((Gr.refl _ _).alloc (Nat.le_refl _) _).drew (hb1.mono (by simp; try omega))⟩


/-- The turn closures: a sum as it is, and turned round. -/
theorem keep_any (a : Int) (w : World) : Calls Try.prog 34 #[sumV a] w fun e w' => e = .returned (sumV (1 * a)) ∧ Gr w.heap.size w w' := by
  rw [Int.one_mul]
  unfold sumV
  go_enter Try.func34, Try.ntmps34
  go_wp2
  refine bodyPost_ret (v := .agg #[.int .u64 (hiS a), .int .u64 (loS a)]) (by simp [results, Try.results34, go_sem]) rfl ⟨rfl, ?_⟩
  exact ((Gr.refl _ _).alloc (Nat.le_refl _) _).alloc (by simp) _

set_option maxHeartbeats 1000000 in
theorem turn_any (a : Int) (w : World) : Calls Try.prog 36 #[sumV a] w fun e w' => e = .returned (sumV (-1 * a)) ∧ Gr w.heap.size w w' := by
  have HX : Hid (∀ W, Calls Try.prog 37 #[sumV a] W fun e w' => e = .returned (sumV (-1 * a)) ∧ Gr W.heap.size W w') := by
    rw [show -1 * a = -a by omega]
    exact fun W => negative_any a W
  revert HX
  generalize -1 * a = b
  unfold sumV
  generalize hiS a = ah
  generalize loS a = al
  generalize hiS b = bh
  generalize loS b = bl
  intro HX
  go_enter Try.func36, Try.ntmps36
  go_wp2_with (go_at_call 37; refine (HX.out _).mono ?_; rintro e w1 ⟨rfl, hb1⟩; have bX := Blk.below (b := w.heap.size + 1) (cs := #[.int .u64 0, .int .u64 0]) (t := 56) (Blk.at (by simp)) hb1.toBelow; have f0 := Blk.frozen bX 0; have f1 := Blk.frozen bX 1; have c0 := Blk.cell bX 0; have c1 := Blk.cell bX 1; simp only [List.getElem?_toArray, List.getElem?_cons_zero, List.getElem?_cons_succ] at c0 c1)
  obtain ⟨d0, d1⟩ := bX.res2 (.int .u64 bh) (.int .u64 bl)
  refine bodyPost_ret (v := .agg #[.int .u64 bh, .int .u64 bl]) (by simp [results, Try.results36, go_sem, d0, d1]) rfl ⟨rfl, ?_⟩
  exact ((Gr.trans (((Gr.refl _ _).alloc (Nat.le_refl _) _).alloc (by simp) _) (hb1.mono (by simp; omega))).setCell (by simp) _).setCell (by simp) _

end Go.Proofs.Ytciijaejldfcaaa
