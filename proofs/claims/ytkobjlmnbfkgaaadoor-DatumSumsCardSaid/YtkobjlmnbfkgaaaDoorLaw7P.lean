/-
  What DatumSums rests on beside its walk: sums and products do not hang on the order of two, what is added can be taken away again, and what a quotient and its rest come to; over Apply's parts' contracts.
-/
import Derived.Test.YtkobjlmnbfkgaaaDoorReck
import Derived.Test.YtkobjlmnbfkgaaaDoorRel2
import Derived.Test.YtkobjlmnbfkgaaaDoorLaw7Base
import Derived.IntWalk
namespace Go.Proofs.YtkobjlmnbfkgaaaDoor
open Go.RowKit

/-- A number of 64 bits. -/
def In64 (a : Int) : Prop := -9223372036854775808 ≤ a ∧ a ≤ 9223372036854775807
def inB (a : Int) : Bool := decide (-9223372036854775808 ≤ a ∧ a ≤ 9223372036854775807)

theorem inB_iff (a : Int) : inB a = true ↔ In64 a := by unfold inB In64; rw [decide_eq_true_eq]

theorem wrap_in {a : Int} (h : In64 a) : wrap64 a = a := by
  unfold In64 at h; unfold wrap64; omega

theorem sumR_eq {a b : Int} (ha : In64 a) (hb : In64 b) : sumR a b = (wrap64 (a + b), inB (a + b)) := by
  unfold In64 at ha hb
  unfold sumR
  congr 1
  unfold inB
  rw [Bool.eq_iff_iff]
  simp only [beq_iff_eq, decide_eq_decide, decide_eq_true_eq]
  unfold wrap64; omega

theorem subR_eq {a b : Int} (ha : In64 a) (hb : In64 b) : subR a b = (wrap64 (a - b), inB (a - b)) := by
  unfold In64 at ha hb
  unfold subR
  congr 1
  unfold inB
  rw [Bool.eq_iff_iff]
  simp only [beq_iff_eq, decide_eq_decide, decide_eq_true_eq]
  unfold wrap64; omega

theorem sumR_comm {a b : Int} (ha : In64 a) (hb : In64 b) : sumR b a = sumR a b := by
  rw [sumR_eq ha hb, sumR_eq hb ha, Int.add_comm]

theorem negB_comm (a b c : Int) : negB b a c = negB a b c := by
  unfold negB
  cases decide (a < 0) <;> cases decide (b < 0) <;> rfl

theorem ratR_comm (a b c : Int) : ratR b a c = ratR a b c := by
  unfold ratR
  rw [negB_comm, Nat.mul_comm]

/-- What the kinds of two numbers make of them: the kind of the result, its unit, and each as it is reckoned with. -/
def kkOf (k1 k2 : Int) : Int := if k1 = 2 ∧ k2 = 2 then 2 else 3
def uuOf (k1 k2 : Int) : Int := if k1 = 2 ∧ k2 = 2 then 1 else 10000
def opdV (k1 k2 k i : Int) : Int := if (k1 = 2 ∧ k2 = 2) ∨ k = 3 then i else scV i
def opdB (k1 k2 k i : Int) : Bool := if (k1 = 2 ∧ k2 = 2) ∨ k = 3 then true else scB i

/-- What reckon comes to, if its arithmetic comes to R: kind, number, error. -/
def recB (R : Int × Bool) (k1 i1 k2 i2 : Int) : Bool := opdB k1 k2 k1 i1 && opdB k1 k2 k2 i2 && R.2
def recK (R : Int × Bool) (k1 i1 k2 i2 : Int) : Int := if recB R k1 i1 k2 i2 then kkOf k1 k2 else 0
def recI (R : Int × Bool) (k1 i1 k2 i2 : Int) : Int := if recB R k1 i1 k2 i2 then R.1 else 0
def recE (R : Int × Bool) (k1 i1 k2 i2 : Int) : Int := if recB R k1 i1 k2 i2 then 0 else 4

/-- reckon, over what its arithmetic comes to. -/
theorem reckon_all (op k1 i1 k2 i2 : Int) (R : Int × Bool) (hk1 : k1 = 2 ∨ k1 = 3) (hk2 : k2 = 2 ∨ k2 = 3) (b1 : In64 i1) (b2 : In64 i2)
    (HA : ∀ w : World, Calls Tryd.prog 66 #[.int .i64 op, .int .i64 (opdV k1 k2 k1 i1), .int .i64 (opdV k1 k2 k2 i2), .int .i64 (uuOf k1 k2)] w (RatPost R.1 R.2 w)) (w : World) :
    Calls Tryd.prog 40 #[.int .i64 op, .agg #[.int .i64 k1, .int .i64 i1, .string noText], .agg #[.int .i64 k2, .int .i64 i2, .string noText]] w (ResPost (recK R k1 i1 k2 i2) (recI R k1 i1 k2 i2) (recE R k1 i1 k2 i2) w) := by
  obtain ⟨V, B⟩ := R
  rcases hk1 with rfl | rfl <;> rcases hk2 with rfl | rfl
  · have := reckon_22 op i1 i2 V B w (Lib.hid (fun w => by simpa [opdV, uuOf] using HA w))
    simpa [recK, recI, recE, recB, opdB, kkOf] using this
  · cases hb : scB i1
    · have := reckon_23_no op i1 i2 (scV i1) i2 false true w (Lib.hid (fun w => hb ▸ scaled_int i1 noText w b1)) (Lib.hid (fun w => scaled_dec i2 noText w)) rfl
      simpa [recK, recI, recE, recB, opdB, kkOf, hb] using this
    · have := reckon_23 op i1 i2 (scV i1) i2 V B w (Lib.hid (fun w => hb ▸ scaled_int i1 noText w b1)) (Lib.hid (fun w => scaled_dec i2 noText w)) (Lib.hid (fun w => by simpa [opdV, uuOf] using HA w))
      simpa [recK, recI, recE, recB, opdB, kkOf, hb] using this
  · cases hb : scB i2
    · have := reckon_32_no op i1 i2 i1 (scV i2) true false w (Lib.hid (fun w => scaled_dec i1 noText w)) (Lib.hid (fun w => hb ▸ scaled_int i2 noText w b2)) rfl
      simpa [recK, recI, recE, recB, opdB, kkOf, hb] using this
    · have := reckon_32 op i1 i2 i1 (scV i2) V B w (Lib.hid (fun w => scaled_dec i1 noText w)) (Lib.hid (fun w => hb ▸ scaled_int i2 noText w b2)) (Lib.hid (fun w => by simpa [opdV, uuOf] using HA w))
      simpa [recK, recI, recE, recB, opdB, kkOf, hb] using this
  · have := reckon_33 op i1 i2 i1 i2 V B w (Lib.hid (fun w => scaled_dec i1 noText w)) (Lib.hid (fun w => scaled_dec i2 noText w)) (Lib.hid (fun w => by simpa [opdV, uuOf] using HA w))
    simpa [recK, recI, recE, recB, opdB, kkOf] using this

theorem opdV_swap (k1 k2 k i : Int) : opdV k2 k1 k i = opdV k1 k2 k i := by
  unfold opdV; simp only [and_comm (a := k2 = 2)]
theorem opdB_swap (k1 k2 k i : Int) : opdB k2 k1 k i = opdB k1 k2 k i := by
  unfold opdB; simp only [and_comm (a := k2 = 2)]
theorem uuOf_swap (k1 k2 : Int) : uuOf k2 k1 = uuOf k1 k2 := by
  unfold uuOf; simp only [and_comm (a := k2 = 2)]

theorem kkOf_swap (k1 k2 : Int) : kkOf k2 k1 = kkOf k1 k2 := by
  unfold kkOf; simp only [and_comm (a := k2 = 2)]

theorem rec_comm (R : Int × Bool) (k1 i1 k2 i2 : Int) : recB R k2 i2 k1 i1 = recB R k1 i1 k2 i2 ∧ recK R k2 i2 k1 i1 = recK R k1 i1 k2 i2 ∧ recI R k2 i2 k1 i1 = recI R k1 i1 k2 i2 ∧ recE R k2 i2 k1 i1 = recE R k1 i1 k2 i2 := by
  have hb : recB R k2 i2 k1 i1 = recB R k1 i1 k2 i2 := by
    unfold recB
    rw [opdB_swap k1 k2 k2 i2, opdB_swap k1 k2 k1 i1, Bool.and_comm (opdB k1 k2 k2 i2)]
  unfold recK recI recE
  rw [hb, kkOf_swap]
  exact ⟨rfl, rfl, rfl, rfl⟩

theorem scV_in (i : Int) : In64 (scV i) := by
  unfold scV In64
  split
  · omega
  · unfold ratV; split <;> unfold wrap64 <;> omega

theorem opdV_in {k1 k2 k i : Int} (h : In64 i) : In64 (opdV k1 k2 k i) := by
  unfold opdV; split
  · exact h
  · exact scV_in i

/-- Sums: the same from both sides. -/
theorem adds (k1 i1 k2 i2 : Int) (hk1 : k1 = 2 ∨ k1 = 3) (hk2 : k2 = 2 ∨ k2 = 3) (b1 : In64 i1) (b2 : In64 i2) :
    ∃ R : Int × Bool, R = sumR (opdV k1 k2 k1 i1) (opdV k1 k2 k2 i2) ∧
    (∀ w : World, Calls Tryd.prog 40 #[.int .i64 3, .agg #[.int .i64 k1, .int .i64 i1, .string noText], .agg #[.int .i64 k2, .int .i64 i2, .string noText]] w (ResPost (recK R k1 i1 k2 i2) (recI R k1 i1 k2 i2) (recE R k1 i1 k2 i2) w)) ∧
    (∀ w : World, Calls Tryd.prog 40 #[.int .i64 3, .agg #[.int .i64 k2, .int .i64 i2, .string noText], .agg #[.int .i64 k1, .int .i64 i1, .string noText]] w (ResPost (recK R k1 i1 k2 i2) (recI R k1 i1 k2 i2) (recE R k1 i1 k2 i2) w)) := by
  refine ⟨_, rfl, fun w => reckon_all 3 k1 i1 k2 i2 _ hk1 hk2 b1 b2 (fun w => arith_add _ _ _ w) w, fun w => ?_⟩
  have h := reckon_all 3 k2 i2 k1 i1 (sumR (opdV k1 k2 k1 i1) (opdV k1 k2 k2 i2)) hk2 hk1 b2 b1 (fun w => by
    rw [← sumR_comm (opdV_in b1) (opdV_in b2), opdV_swap k1 k2 k1 i1, opdV_swap k1 k2 k2 i2]; exact arith_add _ _ _ w) w
  obtain ⟨_, e1, e2, e3⟩ := rec_comm (sumR (opdV k1 k2 k1 i1) (opdV k1 k2 k2 i2)) k1 i1 k2 i2
  rw [e1, e2, e3] at h
  exact h

/-- Products: the same from both sides. -/
theorem muls (k1 i1 k2 i2 : Int) (hk1 : k1 = 2 ∨ k1 = 3) (hk2 : k2 = 2 ∨ k2 = 3) (b1 : In64 i1) (b2 : In64 i2) :
    ∃ R : Int × Bool,
    (∀ w : World, Calls Tryd.prog 40 #[.int .i64 5, .agg #[.int .i64 k1, .int .i64 i1, .string noText], .agg #[.int .i64 k2, .int .i64 i2, .string noText]] w (ResPost (recK R k1 i1 k2 i2) (recI R k1 i1 k2 i2) (recE R k1 i1 k2 i2) w)) ∧
    (∀ w : World, Calls Tryd.prog 40 #[.int .i64 5, .agg #[.int .i64 k2, .int .i64 i2, .string noText], .agg #[.int .i64 k1, .int .i64 i1, .string noText]] w (ResPost (recK R k1 i1 k2 i2) (recI R k1 i1 k2 i2) (recE R k1 i1 k2 i2) w)) := by
  have hu : In64 (uuOf k1 k2) := by unfold uuOf In64; split <;> omega
  refine ⟨ratR (opdV k1 k2 k1 i1) (opdV k1 k2 k2 i2) (uuOf k1 k2), fun w => reckon_all 5 k1 i1 k2 i2 _ hk1 hk2 b1 b2 (fun w => arith_mul _ _ _ _ _ w (Lib.hid (fun w => ratio_any _ _ _ w (opdV_in b1) (opdV_in b2) hu))) w, fun w => ?_⟩
  have h := reckon_all 5 k2 i2 k1 i1 (ratR (opdV k1 k2 k1 i1) (opdV k1 k2 k2 i2) (uuOf k1 k2)) hk2 hk1 b2 b1 (fun w => by
    rw [← ratR_comm, opdV_swap k1 k2 k1 i1, opdV_swap k1 k2 k2 i2, uuOf_swap]; exact arith_mul _ _ _ _ _ w (Lib.hid (fun w => ratio_any _ _ _ w (opdV_in b2) (opdV_in b1) hu))) w
  obtain ⟨_, e1, e2, e3⟩ := rec_comm (ratR (opdV k1 k2 k1 i1) (opdV k1 k2 k2 i2) (uuOf k1 k2)) k1 i1 k2 i2
  rw [e1, e2, e3] at h
  exact h

theorem opd_add {k1 k2 : Int} (hk1 : k1 = 2 ∨ k1 = 3) (hk2 : k2 = 2 ∨ k2 = 3) (x i : Int) :
    opdV (kkOf k1 k2) k2 (kkOf k1 k2) x = x ∧ opdB (kkOf k1 k2) k2 (kkOf k1 k2) x = true ∧ opdV (kkOf k1 k2) k2 k2 i = opdV k1 k2 k2 i ∧ opdB (kkOf k1 k2) k2 k2 i = opdB k1 k2 k2 i ∧ kkOf (kkOf k1 k2) k2 = kkOf k1 k2 := by
  rcases hk1 with rfl | rfl <;> rcases hk2 with rfl | rfl <;> simp [opdV, opdB, kkOf]

/-- What was added is taken away again. -/
theorem backs (k1 i1 k2 i2 : Int) (hk1 : k1 = 2 ∨ k1 = 3) (hk2 : k2 = 2 ∨ k2 = 3) (b1 : In64 i1) (b2 : In64 i2) (R : Int × Bool) (hR : R = sumR (opdV k1 k2 k1 i1) (opdV k1 k2 k2 i2)) (hB : recB R k1 i1 k2 i2 = true) :
    (kkOf k1 k2 = 2 ∨ kkOf k1 k2 = 3) ∧ ∃ K3 I3 : Int, (K3 = 2 ∨ K3 = 3) ∧
    (∀ w : World, Calls Tryd.prog 40 #[.int .i64 4, .agg #[.int .i64 (kkOf k1 k2), .int .i64 R.1, .string noText], .agg #[.int .i64 k2, .int .i64 i2, .string noText]] w (ResPost K3 I3 0 w)) ∧
    (∀ w : World, Calls Tryd.prog 42 #[.int .i64 7, .agg #[.int .i64 K3, .int .i64 I3, .string noText], .agg #[.int .i64 k1, .int .i64 i1, .string noText]] w (ResPost 1 1 0 w)) := by
  have hkk : kkOf k1 k2 = 2 ∨ kkOf k1 k2 = 3 := by unfold kkOf; split <;> simp
  unfold recB at hB
  simp only [Bool.and_eq_true] at hB
  obtain ⟨⟨hB1, hB2⟩, hB3⟩ := hB
  have x1 := opdV_in (k1 := k1) (k2 := k2) (k := k1) b1
  have x2 := opdV_in (k1 := k1) (k2 := k2) (k := k2) b2
  rw [sumR_eq x1 x2] at hR
  subst hR
  have hin := (inB_iff _).1 hB3
  dsimp only at *
  rw [wrap_in hin]
  refine ⟨hkk, kkOf k1 k2, opdV k1 k2 k1 i1, hkk, fun w => ?_, fun w => ?_⟩
  · obtain ⟨e1, e2, e3, e4, e5⟩ := opd_add hk1 hk2 (opdV k1 k2 k1 i1 + opdV k1 k2 k2 i2) i2
    have h := reckon_all 4 (kkOf k1 k2) (opdV k1 k2 k1 i1 + opdV k1 k2 k2 i2) k2 i2 (opdV k1 k2 k1 i1, true) hkk hk2 hin b2 (fun w => by
      rw [e1, e3]
      have := arith_sub (opdV k1 k2 k1 i1 + opdV k1 k2 k2 i2) (opdV k1 k2 k2 i2) (uuOf (kkOf k1 k2) k2) w
      rw [subR_eq hin x2, Int.add_sub_cancel, wrap_in x1, (inB_iff _).2 x1] at this
      exact this) w
    unfold recK recI recE recB at h
    rw [e2, e4, hB2, e5] at h
    simpa using h
  · have hn : ∀ w : World, Calls Tryd.prog 69 #[.agg #[.int .i64 (kkOf k1 k2), .int .i64 (opdV k1 k2 k1 i1), .string noText], .agg #[.int .i64 k1, .int .i64 i1, .string noText]] w (IntPost 0 w) := by
      intro w
      rcases hk1 with rfl | rfl
      · rcases hk2 with rfl | rfl
        · have := cmpN_same 2 i1 i1 w
          rw [ordI_self] at this
          simpa [kkOf, opdV] using this
        · have hs : scB i1 = true := by simpa [opdB] using hB1
          have := cmpN_di (scV i1) i1 w b1
          have e : cmpN 3 (scV i1) 2 i1 = 0 := by
            unfold cmpN; rw [if_neg (by decide), if_neg (by decide), if_pos hs, ordI_self]
          rw [e] at this
          simpa [kkOf, opdV] using this
      · have := cmpN_same 3 i1 i1 w
        rw [ordI_self] at this
        simpa [kkOf, opdV] using this
    have := rel_num 7 (kkOf k1 k2) (opdV k1 k2 k1 i1) noText k1 i1 noText 0 (.inl rfl) (by rcases hkk with h | h <;> rw [h] <;> rfl) (by rcases hk1 with h | h <;> rw [h] <;> rfl) (Lib.hid hn) w
    simpa [holdsB, bitOf] using this

theorem tdiv_abs (i1 i2 : Int) : i1.tdiv i2 = if (decide (i1 < 0) != decide (i2 < 0)) then -((i1.natAbs / i2.natAbs : Nat) : Int) else ((i1.natAbs / i2.natAbs : Nat) : Int) := by
  have n : ∀ a : Nat, decide (Int.ofNat a < 0) = false := fun a => by simp
  have p : ∀ a : Nat, decide (Int.negSucc a < 0) = true := fun a => by simp [Int.negSucc_lt_zero]
  cases i1 with
  | ofNat a => cases i2 with
    | ofNat b => rw [n, n]; rfl
    | negSucc b => rw [n, p]; rfl
  | negSucc a => cases i2 with
    | ofNat b => rw [n, p]; rfl
    | negSucc b => rw [p, p]; rfl

theorem tmod_abs (i1 i2 : Int) : i1.tmod i2 = if decide (i1 < 0) then -((i1.natAbs % i2.natAbs : Nat) : Int) else ((i1.natAbs % i2.natAbs : Nat) : Int) := by
  have n : ∀ a : Nat, decide (Int.ofNat a < 0) = false := fun a => by simp
  have p : ∀ a : Nat, decide (Int.negSucc a < 0) = true := fun a => by simp [Int.negSucc_lt_zero]
  cases i1 with
  | ofNat a => rw [n]; cases i2 <;> rfl
  | negSucc a => rw [p]; cases i2 <;> rfl

theorem rat_fits (B : Bool) (q : Nat) (hb : ratB B q = true) : ratV B q = (if B then -(q : Int) else (q : Int)) ∧ In64 (if B then -(q : Int) else (q : Int)) := by
  unfold ratB at hb
  unfold ratV In64
  cases B
  · simp only [Bool.false_eq_true, if_false, decide_eq_true_eq] at hb ⊢
    unfold wrap64; omega
  · simp only [if_true, decide_eq_true_eq] at hb ⊢
    unfold wrap64; omega

/-- A quotient of two INTs: none, or what it and its rest come to. -/
theorem divs (i1 i2 : Int) (b1 : In64 i1) (b2 : In64 i2) :
    ((∀ w : World, Calls Tryd.prog 40 #[.int .i64 6, .agg #[.int .i64 2, .int .i64 i1, .string noText], .agg #[.int .i64 2, .int .i64 i2, .string noText]] w (ResPost 0 0 4 w)) ∧ (i2 = 0 ∨ (i2 = -1 ∧ i1 = -9223372036854775808))) ∨
    ∃ V : Int, (∀ w : World, Calls Tryd.prog 40 #[.int .i64 6, .agg #[.int .i64 2, .int .i64 i1, .string noText], .agg #[.int .i64 2, .int .i64 i2, .string noText]] w (ResPost 2 V 0 w)) ∧ i2 ≠ 0 ∧ V = i1.tdiv i2 ∧ In64 V := by
  have hr : ∀ w : World, Calls Tryd.prog 40 #[.int .i64 6, .agg #[.int .i64 2, .int .i64 i1, .string noText], .agg #[.int .i64 2, .int .i64 i2, .string noText]] w (ResPost (recK (ratR i1 1 i2) 2 i1 2 i2) (recI (ratR i1 1 i2) 2 i1 2 i2) (recE (ratR i1 1 i2) 2 i1 2 i2) w) := fun w =>
    reckon_all 6 2 i1 2 i2 (ratR i1 1 i2) (.inl rfl) (.inl rfl) b1 b2 (fun w => arith_div _ _ _ _ _ w (Lib.hid (fun w => by simpa [opdV, uuOf] using ratio_any i1 1 i2 w b1 (by omega) b2))) w
  have hrec : recB (ratR i1 1 i2) 2 i1 2 i2 = (ratR i1 1 i2).2 := by simp [recB, opdB]
  unfold recK recI recE at hr
  rw [hrec] at hr
  unfold In64 at b1 b2
  have q0 : i1.natAbs * (1 : Int).natAbs = i1.natAbs := by simp
  have q1 : i1.natAbs / 18446744073709551616 = 0 := by omega
  by_cases h0 : i2 = 0
  · left
    have hv : ratR i1 1 i2 = (0, false) := by unfold ratR; rw [if_pos (by rw [h0]; simp)]
    rw [hv] at hr
    exact ⟨by simpa using hr, .inl h0⟩
  · have hpos : 0 < i2.natAbs := by omega
    have hv : ratR i1 1 i2 = (ratV (negB i1 1 i2) (i1.natAbs / i2.natAbs), ratB (negB i1 1 i2) (i1.natAbs / i2.natAbs)) := by
      unfold ratR; rw [q0, q1, if_neg (by omega)]
    have hqle : i1.natAbs / i2.natAbs ≤ i1.natAbs := Nat.div_le_self _ _
    have hneg : negB i1 1 i2 = (decide (i1 < 0) != decide (i2 < 0)) := by
      unfold negB; simp
    have ht : i1.tdiv i2 = if negB i1 1 i2 then -((i1.natAbs / i2.natAbs : Nat) : Int) else ((i1.natAbs / i2.natAbs : Nat) : Int) := by
      rw [hneg]; exact tdiv_abs i1 i2
    by_cases hbad : i2 = -1 ∧ i1 = -9223372036854775808
    · left
      have hf : (ratR i1 1 i2).2 = false := by
        rw [hv]; obtain ⟨rfl, rfl⟩ := hbad; decide
      rw [hf] at hr
      exact ⟨by simpa using hr, .inr hbad⟩
    · right
      have hb : ratB (negB i1 1 i2) (i1.natAbs / i2.natAbs) = true := by
        unfold ratB
        split
        · rw [decide_eq_true_eq]; omega
        · rename_i hn
          rw [hneg] at hn
          rw [decide_eq_true_eq]
          by_cases h2 : i2.natAbs = 1
          · rw [h2, Nat.div_one]
            by_cases hi2 : i2 = -1
            · have : i1 ≠ -9223372036854775808 := fun h => hbad ⟨hi2, h⟩
              omega
            · have : i2 = 1 := by omega
              subst this
              simp at hn; omega
          · have : i1.natAbs / i2.natAbs ≤ i1.natAbs / 2 := Nat.div_le_div_left (by omega) (by omega)
            omega
      obtain ⟨hV, hin⟩ := rat_fits (negB i1 1 i2) (i1.natAbs / i2.natAbs) hb
      rw [← ht] at hV hin
      refine ⟨_, ?_, h0, rfl, hin⟩
      rw [hv, hb, hV] at hr
      simpa [kkOf] using hr

/-- The rest of a quotient. -/
theorem rests (i1 i2 : Int) (b1 : In64 i1) (b2 : In64 i2) (h0 : i2 ≠ 0) :
    ∃ R : Int, IntKind.i64.wrap (i1.tdiv i2 * i2) = i1.tdiv i2 * i2 ∧ IntKind.i64.wrap (i1 - i1.tdiv i2 * i2) = R ∧ R = i1.tmod i2 := by
  have h := Int.tmod_add_mul_tdiv i1 i2
  have hc : i1.tdiv i2 * i2 = i1 - i1.tmod i2 := by rw [Int.mul_comm]; omega
  unfold In64 at b1 b2
  have hm : (0 ≤ i1 → 0 ≤ i1.tmod i2 ∧ i1.tmod i2 ≤ i1) ∧ (i1 < 0 → i1 ≤ i1.tmod i2 ∧ i1.tmod i2 ≤ 0) := by
    have hle := Nat.mod_le i1.natAbs i2.natAbs
    rw [tmod_abs]
    constructor
    · intro hi
      rw [decide_eq_false (by omega)]; simp only [Bool.false_eq_true, if_false]; omega
    · intro hi
      rw [decide_eq_true hi]; simp only [if_true]; omega
  refine ⟨i1.tmod i2, ?_, ?_, rfl⟩
  · rw [hc]
    rw [IntWalk.i64_in]
    rcases Int.lt_or_le i1 0 with s | s
    · have := hm.2 s; omega
    · have := hm.1 s; omega
  · rw [hc]
    have e : i1 - (i1 - i1.tmod i2) = i1.tmod i2 := by omega
    rw [e, IntWalk.i64_in]
    rcases Int.lt_or_le i1 0 with s | s
    · have := hm.2 s; omega
    · have := hm.1 s; omega

/-- The rest has the sign of what was divided, and is smaller than the divisor. -/
theorem rest_cases (i1 i2 : Int) (b1 : In64 i1) (b2 : In64 i2) (h0 : i2 ≠ 0) (R : Int) (hR : R = i1.tmod i2) :
    ((R = 0 ∧ i2 < 0) ∨ (R = 0 ∧ 0 < i2) ∨ ((R == 0) = false ∧ R < 0 ∧ i1 < 0 ∧ i2 < 0 ∧ i2 < R ∧ IntKind.i64.wrap (-R) = -R) ∨ ((R == 0) = false ∧ R < 0 ∧ i1 < 0 ∧ 0 < i2 ∧ -R < i2 ∧ IntKind.i64.wrap (-R) = -R) ∨ ((R == 0) = false ∧ 0 < R ∧ 0 < i1 ∧ i2 < 0 ∧ i2 < -R ∧ IntKind.i64.wrap (-R) = -R) ∨ ((R == 0) = false ∧ 0 < R ∧ 0 < i1 ∧ 0 < i2 ∧ R < i2)) := by
  unfold In64 at b1 b2
  have hw : ∀ x : Int, -9223372036854775807 ≤ x → x ≤ 9223372036854775807 → IntKind.i64.wrap (-x) = -x := fun x h1 h2 => IntWalk.i64_in _ (by omega)
  have key : ∃ m : Nat, m < i2.natAbs ∧ (0 ≤ i1 → R = (m : Int)) ∧ (i1 < 0 → R = -(m : Int)) := by
    refine ⟨i1.natAbs % i2.natAbs, Nat.mod_lt _ (by omega), fun hi => ?_, fun hi => ?_⟩
    · rw [hR, tmod_abs, decide_eq_false (by omega)]; simp only [Bool.false_eq_true, if_false]
    · rw [hR, tmod_abs, decide_eq_true hi]; simp only [if_true]
  obtain ⟨m, hm, p, n⟩ := key
  by_cases hz : R = 0
  · rcases Int.lt_or_gt_of_ne h0 with s | s
    · exact .inl ⟨hz, s⟩
    · exact .inr (.inl ⟨hz, s⟩)
  · have hz' : (R == 0) = false := by simpa using hz
    rcases Int.lt_or_le i1 0 with s1 | s1
    · have hr := n s1
      rcases Int.lt_or_gt_of_ne h0 with s | s
      · exact .inr (.inr (.inl ⟨hz', by omega, s1, s, by omega, hw R (by omega) (by omega)⟩))
      · exact .inr (.inr (.inr (.inl ⟨hz', by omega, s1, s, by omega, hw R (by omega) (by omega)⟩)))
    · have hr := p s1
      have hi1 : i1 ≠ 0 := by
        intro h; subst h
        rw [Int.zero_tmod] at hR; exact hz hR
      rcases Int.lt_or_gt_of_ne h0 with s | s
      · exact .inr (.inr (.inr (.inr (.inl ⟨hz', by omega, by omega, s, by omega, hw R (by omega) (by omega)⟩))))
      · exact .inr (.inr (.inr (.inr (.inr ⟨hz', by omega, by omega, s, by omega⟩))))

end Go.Proofs.YtkobjlmnbfkgaaaDoor
