/-
  The program's reckon where an operand is NULL or no number.
-/
import Derived.Test.YtippffjhkinfoaaGreatDoorPrP
namespace Go.Proofs.YtippffjhkinfoaaGreatDoor
open Go.RowKit

set_option maxRecDepth 100000 in
set_option maxHeartbeats 8000000 in
theorem reckon_type1 (op k1 i1 : Int) (s1 : ByteArray) (k2 i2 : Int) (s2 : ByteArray) (w : World) (h1 : k1 ≠ 0) (n1 : numB k1 = false) :
    Calls Tryz.prog 88 #[.int .i64 op, .agg #[.int .i64 k1, .int .i64 i1, .string s1], .agg #[.int .i64 k2, .int .i64 i2, .string s2]] w (ResPost 0 0 5 w) := by
  have e1 : (k1 == 0) = false := beq_eq_false_iff_ne.2 h1
  have N1 := Lib.hid n1
  clear h1 n1
  go_enter Tryz.func88, Tryz.ntmps88
  go_wp2_with (first
    | (go_at_call 86; refine (isNull_any _ _ _ _).mono ?_; rintro e w' ⟨rfl, rfl⟩)
    | (go_at_call 109; (with_reducible refine (isNumber_any k1 _ _ _).mono ?_); rintro e w' ⟨rfl, rfl⟩; rw [N1.out]))
  refine bodyPost_ret (v := .tuple #[.agg #[.int .i64 0, .int .i64 0, .string noText], .int .i64 5]) ?_ rfl ⟨rfl, ?_⟩
  · simp [results, Tryz.results88, go_sem]
  · repeat (first | exact Below.refl _ _ | assumption | refine Below.alloc ?_ (by simp <;> omega) _ | refine Below.setCell ?_ (by simp <;> omega) _)

set_option maxRecDepth 100000 in
set_option maxHeartbeats 8000000 in
theorem reckon_type2_num (op k1 i1 : Int) (s1 : ByteArray) (k2 i2 : Int) (s2 : ByteArray) (w : World) (n1 : numB k1 = true) (h2 : k2 ≠ 0) (n2 : numB k2 = false) :
    Calls Tryz.prog 88 #[.int .i64 op, .agg #[.int .i64 k1, .int .i64 i1, .string s1], .agg #[.int .i64 k2, .int .i64 i2, .string s2]] w (ResPost 0 0 5 w) := by
  have e2 : (k2 == 0) = false := beq_eq_false_iff_ne.2 h2
  have N1 := Lib.hid n1
  have N2 := Lib.hid n2
  clear h2 n1 n2
  go_enter Tryz.func88, Tryz.ntmps88
  go_wp2_with (first
    | (go_at_call 86; refine (isNull_any _ _ _ _).mono ?_; rintro e w' ⟨rfl, rfl⟩)
    | (go_at_call 109; (with_reducible refine (isNumber_any k1 _ _ _).mono ?_); rintro e w' ⟨rfl, rfl⟩; rw [N1.out])
    | (go_at_call 109; (with_reducible refine (isNumber_any k2 _ _ _).mono ?_); rintro e w' ⟨rfl, rfl⟩; rw [N2.out]))
  refine bodyPost_ret (v := .tuple #[.agg #[.int .i64 0, .int .i64 0, .string noText], .int .i64 5]) ?_ rfl ⟨rfl, ?_⟩
  · simp [results, Tryz.results88, go_sem]
  · repeat (first | exact Below.refl _ _ | assumption | refine Below.alloc ?_ (by simp <;> omega) _ | refine Below.setCell ?_ (by simp <;> omega) _)

set_option maxRecDepth 100000 in
set_option maxHeartbeats 8000000 in
theorem reckon_type2_null (op k1 i1 : Int) (s1 : ByteArray) (k2 i2 : Int) (s2 : ByteArray) (w : World) (h1 : k1 = 0) (h2 : k2 ≠ 0) (n2 : numB k2 = false) :
    Calls Tryz.prog 88 #[.int .i64 op, .agg #[.int .i64 k1, .int .i64 i1, .string s1], .agg #[.int .i64 k2, .int .i64 i2, .string s2]] w (ResPost 0 0 5 w) := by
  have e2 : (k2 == 0) = false := beq_eq_false_iff_ne.2 h2
  subst h1
  have N2 := Lib.hid n2
  clear h2 n2
  go_enter Tryz.func88, Tryz.ntmps88
  go_wp2_with (first
    | (go_at_call 86; refine (isNull_any _ _ _ _).mono ?_; rintro e w' ⟨rfl, rfl⟩)
    | (go_at_call 109; (with_reducible refine (isNumber_any 0 _ _ _).mono ?_); rintro e w' ⟨rfl, rfl⟩; rw [show numB 0 = false from rfl])
    | (go_at_call 109; (with_reducible refine (isNumber_any k2 _ _ _).mono ?_); rintro e w' ⟨rfl, rfl⟩; rw [N2.out]))
  refine bodyPost_ret (v := .tuple #[.agg #[.int .i64 0, .int .i64 0, .string noText], .int .i64 5]) ?_ rfl ⟨rfl, ?_⟩
  · simp [results, Tryz.results88, go_sem]
  · repeat (first | exact Below.refl _ _ | assumption | refine Below.alloc ?_ (by simp <;> omega) _ | refine Below.setCell ?_ (by simp <;> omega) _)

set_option maxRecDepth 100000 in
set_option maxHeartbeats 8000000 in
theorem reckon_null1_null (op k1 i1 : Int) (s1 : ByteArray) (k2 i2 : Int) (s2 : ByteArray) (w : World) (h1 : k1 = 0) (h2 : k2 = 0) :
    Calls Tryz.prog 88 #[.int .i64 op, .agg #[.int .i64 k1, .int .i64 i1, .string s1], .agg #[.int .i64 k2, .int .i64 i2, .string s2]] w (ResPost 0 0 0 w) := by
  subst h1 h2
  go_enter Tryz.func88, Tryz.ntmps88
  go_wp2_with (first
    | (go_at_call 86; refine (isNull_any _ _ _ _).mono ?_; rintro e w' ⟨rfl, rfl⟩)
    | (go_at_call 109; refine (isNumber_any _ _ _ _).mono ?_; rintro e w' ⟨rfl, rfl⟩) )
  refine bodyPost_ret (v := .tuple #[.agg #[.int .i64 0, .int .i64 0, .string noText], .int .i64 0]) ?_ rfl ⟨rfl, ?_⟩
  · simp [results, Tryz.results88, go_sem]
  · repeat (first | exact Below.refl _ _ | assumption | refine Below.alloc ?_ (by simp <;> omega) _ | refine Below.setCell ?_ (by simp <;> omega) _)

set_option maxRecDepth 100000 in
set_option maxHeartbeats 8000000 in
theorem reckon_null1_num (op k1 i1 : Int) (s1 : ByteArray) (k2 i2 : Int) (s2 : ByteArray) (w : World) (h1 : k1 = 0) (h2 : k2 ≠ 0) (n2 : numB k2 = true) :
    Calls Tryz.prog 88 #[.int .i64 op, .agg #[.int .i64 k1, .int .i64 i1, .string s1], .agg #[.int .i64 k2, .int .i64 i2, .string s2]] w (ResPost 0 0 0 w) := by
  have e2 : (k2 == 0) = false := beq_eq_false_iff_ne.2 h2
  subst h1
  have N2 := Lib.hid n2
  clear h2 n2
  go_enter Tryz.func88, Tryz.ntmps88
  go_wp2_with (first
    | (go_at_call 86; refine (isNull_any _ _ _ _).mono ?_; rintro e w' ⟨rfl, rfl⟩)
    | (go_at_call 109; (with_reducible refine (isNumber_any 0 _ _ _).mono ?_); rintro e w' ⟨rfl, rfl⟩; rw [show numB 0 = false from rfl])
    | (go_at_call 109; (with_reducible refine (isNumber_any k2 _ _ _).mono ?_); rintro e w' ⟨rfl, rfl⟩; rw [N2.out]))
  refine bodyPost_ret (v := .tuple #[.agg #[.int .i64 0, .int .i64 0, .string noText], .int .i64 0]) ?_ rfl ⟨rfl, ?_⟩
  · simp [results, Tryz.results88, go_sem]
  · repeat (first | exact Below.refl _ _ | assumption | refine Below.alloc ?_ (by simp <;> omega) _ | refine Below.setCell ?_ (by simp <;> omega) _)

set_option maxRecDepth 100000 in
set_option maxHeartbeats 8000000 in
theorem reckon_num_null (op k1 i1 : Int) (s1 : ByteArray) (k2 i2 : Int) (s2 : ByteArray) (w : World) (h1 : k1 ≠ 0) (n1 : numB k1 = true) (h2 : k2 = 0) :
    Calls Tryz.prog 88 #[.int .i64 op, .agg #[.int .i64 k1, .int .i64 i1, .string s1], .agg #[.int .i64 k2, .int .i64 i2, .string s2]] w (ResPost 0 0 0 w) := by
  have e1 : (k1 == 0) = false := beq_eq_false_iff_ne.2 h1
  subst h2
  have N1 := Lib.hid n1
  clear h1 n1
  go_enter Tryz.func88, Tryz.ntmps88
  go_wp2_with (first
    | (go_at_call 86; refine (isNull_any _ _ _ _).mono ?_; rintro e w' ⟨rfl, rfl⟩)
    | (go_at_call 109; (with_reducible refine (isNumber_any k1 _ _ _).mono ?_); rintro e w' ⟨rfl, rfl⟩; rw [N1.out])
    | (go_at_call 109; (with_reducible refine (isNumber_any 0 _ _ _).mono ?_); rintro e w' ⟨rfl, rfl⟩; rw [show numB 0 = false from rfl]))
  refine bodyPost_ret (v := .tuple #[.agg #[.int .i64 0, .int .i64 0, .string noText], .int .i64 0]) ?_ rfl ⟨rfl, ?_⟩
  · simp [results, Tryz.results88, go_sem]
  · repeat (first | exact Below.refl _ _ | assumption | refine Below.alloc ?_ (by simp <;> omega) _ | refine Below.setCell ?_ (by simp <;> omega) _)


theorem inB_fits (z : Int) : inB z = fitsB z := rfl
theorem ratR_fit {a b c : Int} (h0 : c ≠ 0) : (ratR a b c).2 = fitsB ((a * b).tdiv c) ∧ (fitsB ((a * b).tdiv c) = true → (ratR a b c).1 = (a * b).tdiv c) := by
  have hab : (a * b).natAbs = a.natAbs * b.natAbs := Int.natAbs_mul a b
  have ht := tdiv_abs (a * b) c
  rw [hab] at ht
  have hsign : a.natAbs * b.natAbs / c.natAbs ≠ 0 → negB a b c = (decide (a * b < 0) != decide (c < 0)) := by
    intro hq
    have hne : a.natAbs * b.natAbs ≠ 0 := by intro h; rw [h, Nat.zero_div] at hq; exact hq rfl
    have hab0 : a * b ≠ 0 := by intro h; rw [h] at hab; simp at hab; rw [← hab] at hne; exact hne rfl
    have ha0 : a ≠ 0 := by intro h; rw [h, Int.zero_mul] at hab0; exact hab0 rfl
    have hb0 : b ≠ 0 := by intro h; rw [h, Int.mul_zero] at hab0; exact hab0 rfl
    unfold negB
    congr 1
    rcases Int.lt_or_gt_of_ne ha0 with sa | sa <;> rcases Int.lt_or_gt_of_ne hb0 with sb | sb
    · have := Int.mul_pos_of_neg_of_neg sa sb
      rw [decide_eq_true sa, decide_eq_true sb, decide_eq_false (by omega)]; rfl
    · have := Int.mul_neg_of_neg_of_pos sa sb
      rw [decide_eq_true sa, decide_eq_false (by omega), decide_eq_true this]; rfl
    · have := Int.mul_neg_of_pos_of_neg sa sb
      rw [decide_eq_false (by omega), decide_eq_true sb, decide_eq_true this]; rfl
    · have := Int.mul_pos sa sb
      rw [decide_eq_false (by omega), decide_eq_false (by omega), decide_eq_false (by omega)]; rfl
  have hcp : 0 < c.natAbs := by omega
  unfold ratR
  by_cases hbig : c.natAbs ≤ a.natAbs * b.natAbs / 18446744073709551616
  · rw [if_pos hbig]
    have h1 : 18446744073709551616 ≤ a.natAbs * b.natAbs / c.natAbs := by
      rw [Nat.le_div_iff_mul_le hcp, Nat.mul_comm]
      have := Nat.mul_le_mul_right 18446744073709551616 hbig
      exact Nat.le_trans this (Nat.div_mul_le_self (a.natAbs * b.natAbs) 18446744073709551616)
    have hf : fitsB ((a * b).tdiv c) = false := by
      unfold fitsB
      rw [ht, decide_eq_false_iff_not]
      generalize a.natAbs * b.natAbs / c.natAbs = q at h1 ⊢
      split <;> omega
    rw [hf]
    exact ⟨rfl, fun h => Bool.noConfusion h⟩
  · rw [if_neg hbig]
    generalize hq : a.natAbs * b.natAbs / c.natAbs = q at ht hsign ⊢
    by_cases q0 : q = 0
    · have hz : (a * b).tdiv c = 0 := by
        rw [ht, q0]
        split <;> rfl
      rw [hz, q0]
      refine ⟨?_, fun _ => ?_⟩
      · unfold ratB
        split <;> rfl
      · show (if negB a b c then wrap64 (-wrap64 ((0 : Nat) : Int)) else wrap64 ((0 : Nat) : Int)) = 0
        split <;> (unfold wrap64; omega)
    · rw [← hsign q0] at ht
      have hB : ratB (negB a b c) q = fitsB ((a * b).tdiv c) := by
        rw [ht]
        unfold ratB fitsB
        cases negB a b c
        · simp only [Bool.false_eq_true, if_false]
          rw [Bool.eq_iff_iff, decide_eq_true_eq, decide_eq_true_eq]
          omega
        · simp only [if_true]
          rw [Bool.eq_iff_iff, decide_eq_true_eq, decide_eq_true_eq]
          omega
      refine ⟨hB, fun hf => ?_⟩
      rw [← hB] at hf
      rw [ht]
      exact (rat_fits _ _ hf).1

/-- What arithmetic comes to. -/
def arR (op x y u : Int) : Int × Bool := if op = 3 then sumR x y else if op = 4 then subR x y else if op = 5 then ratR x y u else ratR x u y
theorem arR_calls (op : Int) (hop : op = 3 ∨ op = 4 ∨ op = 5 ∨ op = 6) (x y u : Int) (hx : In64 x) (hy : In64 y) (hu : In64 u) (w : World) :
    Calls Tryz.prog 112 #[.int .i64 op, .int .i64 x, .int .i64 y, .int .i64 u] w (RatPost (arR op x y u).1 (arR op x y u).2 w) := by
  rcases hop with rfl | rfl | rfl | rfl
  · exact arith_add x y u w
  · exact arith_sub x y u w
  · exact arith_mul x y u _ _ w (Lib.hid fun w => ratio_any x y u w hx hy hu)
  · exact arith_div x y u _ _ w (Lib.hid fun w => ratio_any x u y w hx hu hy)
theorem sum_fit {x y : Int} (hx : In64 x) (hy : In64 y) : (sumR x y).2 = fitsB (x + y) ∧ (fitsB (x + y) = true → (sumR x y).1 = x + y) := by
  rw [sumR_eq hx hy]
  exact ⟨rfl, fun h => wrap_in ((inB_iff _).1 h)⟩
theorem sub_fit {x y : Int} (hx : In64 x) (hy : In64 y) : (subR x y).2 = fitsB (x + -y) ∧ (fitsB (x + -y) = true → (subR x y).1 = x + -y) := by
  rw [subR_eq hx hy, Int.sub_eq_add_neg]
  exact ⟨rfl, fun h => wrap_in ((inB_iff _).1 h)⟩

theorem rec_no {R : Int × Bool} {k1 i1 k2 i2 : Int} (h : recB R k1 i1 k2 i2 = false) (w : World) : ResPost (recK R k1 i1 k2 i2) (recI R k1 i1 k2 i2) (recE R k1 i1 k2 i2) w = ResT (0, 0, 4) w := by
  unfold recK recI recE
  rw [h]; rfl
theorem rec_fit {R : Int × Bool} {k1 i1 k2 i2 z : Int} (ho : (opdB k1 k2 k1 i1 && opdB k1 k2 k2 i2) = true) (h2 : R.2 = fitsB z) (h1 : fitsB z = true → R.1 = z) (w : World) : ResPost (recK R k1 i1 k2 i2) (recI R k1 i1 k2 i2) (recE R k1 i1 k2 i2) w = ResT (fitT (kkOf k1 k2) z) w := by
  have hb : recB R k1 i1 k2 i2 = fitsB z := by
    unfold recB
    rw [ho, h2]; rfl
  unfold recK recI recE fitT fitK fitI fitE
  rw [hb]
  cases hf : fitsB z
  · rfl
  · simp only [if_true]
    rw [h1 hf]; rfl
theorem rec_two (op : Int) (hop : op = 3 ∨ op = 4 ∨ op = 5 ∨ op = 6) {k1 i1 k2 i2 x y u : Int} (hx : In64 x) (hy : In64 y) (hu : u = 1 ∨ u = 10000) (ho : (opdB k1 k2 k1 i1 && opdB k1 k2 k2 i2) = true) (w : World) :
    ResPost (recK (arR op x y u) k1 i1 k2 i2) (recI (arR op x y u) k1 i1 k2 i2) (recE (arR op x y u) k1 i1 k2 i2) w = ResT (twoR op (kkOf k1 k2) u x y) w := by
  unfold arR twoR
  rcases hop with rfl | rfl | rfl | rfl
  · exact rec_fit ho (sum_fit hx hy).1 (sum_fit hx hy).2 w
  · exact rec_fit ho (sub_fit hx hy).1 (sub_fit hx hy).2 w
  · exact rec_fit ho (ratR_fit (by omega)).1 (ratR_fit (by omega)).2 w
  · rw [if_neg (by decide), if_neg (by decide), if_neg (by decide), if_neg (by decide), if_neg (by decide), if_neg (by decide)]
    by_cases hz : y = 0
    · rw [if_pos hz]
      refine rec_no ?_ w
      have : (ratR x u y).2 = false := by
        unfold ratR
        rw [if_pos (by rw [hz]; simp)]
      unfold recB
      rw [this, Bool.and_false]
    · rw [if_neg hz]
      exact rec_fit ho (ratR_fit hz).1 (ratR_fit hz).2 w

theorem opd_num {k1 k2 k i : Int} (hk : k = 2 ∨ k = 3) (h : ¬ (k1 = 2 ∧ k2 = 2)) (hi : -9223372036854775808 ≤ i ∧ i ≤ 9223372036854775807) : opdB k1 k2 k i = fitsB (numZ k i) ∧ (fitsB (numZ k i) = true → opdV k1 k2 k i = numZ k i) := by
  unfold opdB opdV numZ
  rcases hk with rfl | rfl
  · have e : ¬ ((k1 = 2 ∧ k2 = 2) ∨ (2 : Int) = 3) := by omega
    rw [if_neg e, if_neg e, if_pos rfl]
    exact ⟨rfl, fun hf => scV_eq i hf⟩
  · have e : ((k1 = 2 ∧ k2 = 2) ∨ (3 : Int) = 3) := .inr rfl
    rw [if_pos e, if_pos e, if_neg (by decide)]
    exact ⟨by unfold fitsB; rw [decide_eq_true hi], fun _ => rfl⟩

/-- reckon: of values that may be. -/
theorem reckon_any (op : Int) (hop : op = 3 ∨ op = 4 ∨ op = 5 ∨ op = 6) (a b : Dat) (ha : rightD a = true) (hb : rightD b = true) (hI : InI a) (hJ : InI b) (w : World) :
    Calls Tryz.prog 88 #[.int .i64 op, datVal a, datVal b] w (ResT (binR op a b) w) := by
  have hnum : onlyR 2 3 [a, b] = (okEl 2 3 a && okEl 2 3 b) := by
    unfold onlyR
    simp
  unfold binR
  rw [hnum]
  obtain ⟨k1, i1, s1⟩ := a
  obtain ⟨k2, i2, s2⟩ := b
  unfold InI at hI hJ
  simp only at hI hJ ⊢
  by_cases h1 : k1 = 0
  · have e1 : okEl 2 3 ⟨k1, i1, s1⟩ = true := decide_eq_true (.inl h1)
    rw [e1, Bool.true_and]
    by_cases h2 : k2 = 0
    · have e2 : okEl 2 3 ⟨k2, i2, s2⟩ = true := decide_eq_true (.inl h2)
      rw [e2, if_neg (by decide), if_pos (.inl h1)]
      exact reckon_null1_null op k1 i1 s1 k2 i2 s2 w h1 h2
    · rw [okEl_num h2]
      cases n2 : numB k2
      · rw [if_pos rfl]
        exact reckon_type2_null op k1 i1 s1 k2 i2 s2 w h1 h2 n2
      · rw [if_neg (by decide), if_pos (.inl h1)]
        exact reckon_null1_num op k1 i1 s1 k2 i2 s2 w h1 h2 n2
  · rw [okEl_num h1]
    cases n1 : numB k1
    · rw [if_pos (Bool.false_and _)]
      exact reckon_type1 op k1 i1 s1 k2 i2 s2 w h1 n1
    · rw [Bool.true_and]
      by_cases h2 : k2 = 0
      · have e2 : okEl 2 3 ⟨k2, i2, s2⟩ = true := decide_eq_true (.inl h2)
        rw [e2, if_neg (by decide), if_pos (.inr h2)]
        exact reckon_num_null op k1 i1 s1 k2 i2 s2 w h1 n1 h2
      · rw [okEl_num h2]
        cases n2 : numB k2
        · rw [if_pos rfl]
          exact reckon_type2_num op k1 i1 s1 k2 i2 s2 w n1 h2 n2
        · rw [if_neg (by decide), if_neg (by omega)]
          have q1 : k1 = 2 ∨ k1 = 3 := by unfold numB at n1; simpa using n1
          have q2 : k2 = 2 ∨ k2 = 3 := by unfold numB at n2; simpa using n2
          obtain rfl : s1 = noText := right_num ha q1
          obtain rfl : s2 = noText := right_num hb q2
          have x1 : In64 (opdV k1 k2 k1 i1) := opdV_in hI
          have x2 : In64 (opdV k1 k2 k2 i2) := opdV_in hJ
          have hu : uuOf k1 k2 = 1 ∨ uuOf k1 k2 = 10000 := by unfold uuOf; split <;> simp
          have h := reckon_all op k1 i1 k2 i2 (arR op (opdV k1 k2 k1 i1) (opdV k1 k2 k2 i2) (uuOf k1 k2)) q1 q2 hI hJ (fun w => arR_calls op hop _ _ _ x1 x2 (by unfold In64; omega) w) w
          by_cases hk : k1 = 2 ∧ k2 = 2
          · obtain ⟨rfl, rfl⟩ := hk
            rw [if_pos ⟨rfl, rfl⟩]
            rw [rec_two op hop x1 x2 hu rfl] at h
            exact h
          · rw [if_neg hk]
            obtain ⟨c1, d1⟩ := opd_num q1 hk hI
            obtain ⟨c2, d2⟩ := opd_num q2 hk hJ
            cases hf : (fitsB (numZ k1 i1) && fitsB (numZ k2 i2))
            · rw [if_pos rfl]
              rw [rec_no (by unfold recB; rw [c1, c2, hf]; rfl)] at h
              exact h
            · rw [if_neg (by decide)]
              have hf' := Bool.and_eq_true_iff.1 hf
              rw [rec_two op hop x1 x2 hu (by rw [c1, c2]; exact hf)] at h
              rw [d1 hf'.1, d2 hf'.2] at h
              unfold kkOf uuOf at h
              rw [if_neg hk, if_neg hk] at h
              exact h

end Go.Proofs.YtippffjhkinfoaaGreatDoor
