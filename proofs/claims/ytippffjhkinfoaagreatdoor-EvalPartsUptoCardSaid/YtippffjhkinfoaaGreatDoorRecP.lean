/-
  What reckon comes to, over what its arithmetic comes to: kinds, numbers, errors.
-/
import Derived.Test.YtippffjhkinfoaaGreatDoorReck
import Derived.Test.YtippffjhkinfoaaGreatDoorRel2
import Derived.IntWalk
namespace Go.Proofs.YtippffjhkinfoaaGreatDoor
open Go.RowKit

/-- A number of 64 bits. -/
def In64 (a : Int) : Prop := -9223372036854775808 ≤ a ∧ a ≤ 9223372036854775807
def inB (a : Int) : Bool := decide (-9223372036854775808 ≤ a ∧ a ≤ 9223372036854775807)

theorem inB_iff (a : Int) : inB a = true ↔ In64 a := by unfold inB In64; rw [decide_eq_true_eq]

theorem wrap_in {a : Int} (h : In64 a) : wrap64 a = a := by
  unfold In64 at h; unfold wrap64; omega

theorem sumR_eq {a b : Int} (ha : In64 a) (hb : In64 b) : sumR a b = (wrap64 (a + b), inB (a + b)) := by
  unfold In64 at ha hb
  unfold sumR
  congr 1
  unfold inB
  rw [Bool.eq_iff_iff]
  simp only [beq_iff_eq, decide_eq_decide, decide_eq_true_eq]
  unfold wrap64; omega

theorem subR_eq {a b : Int} (ha : In64 a) (hb : In64 b) : subR a b = (wrap64 (a - b), inB (a - b)) := by
  unfold In64 at ha hb
  unfold subR
  congr 1
  unfold inB
  rw [Bool.eq_iff_iff]
  simp only [beq_iff_eq, decide_eq_decide, decide_eq_true_eq]
  unfold wrap64; omega

theorem sumR_comm {a b : Int} (ha : In64 a) (hb : In64 b) : sumR b a = sumR a b := by
  rw [sumR_eq ha hb, sumR_eq hb ha, Int.add_comm]

theorem negB_comm (a b c : Int) : negB b a c = negB a b c := by
  unfold negB
  cases decide (a < 0) <;> cases decide (b < 0) <;> rfl

theorem ratR_comm (a b c : Int) : ratR b a c = ratR a b c := by
  unfold ratR
  rw [negB_comm, Nat.mul_comm]

/-- What the kinds of two numbers make of them: the kind of the result, its unit, and each as it is reckoned with. -/
def kkOf (k1 k2 : Int) : Int := if k1 = 2 ∧ k2 = 2 then 2 else 3
def uuOf (k1 k2 : Int) : Int := if k1 = 2 ∧ k2 = 2 then 1 else 10000
def opdV (k1 k2 k i : Int) : Int := if (k1 = 2 ∧ k2 = 2) ∨ k = 3 then i else scV i
def opdB (k1 k2 k i : Int) : Bool := if (k1 = 2 ∧ k2 = 2) ∨ k = 3 then true else scB i

/-- What reckon comes to, if its arithmetic comes to R: kind, number, error. -/
def recB (R : Int × Bool) (k1 i1 k2 i2 : Int) : Bool := opdB k1 k2 k1 i1 && opdB k1 k2 k2 i2 && R.2
def recK (R : Int × Bool) (k1 i1 k2 i2 : Int) : Int := if recB R k1 i1 k2 i2 then kkOf k1 k2 else 0
def recI (R : Int × Bool) (k1 i1 k2 i2 : Int) : Int := if recB R k1 i1 k2 i2 then R.1 else 0
def recE (R : Int × Bool) (k1 i1 k2 i2 : Int) : Int := if recB R k1 i1 k2 i2 then 0 else 4

/-- reckon, over what its arithmetic comes to. -/
theorem reckon_all (op k1 i1 k2 i2 : Int) (R : Int × Bool) (hk1 : k1 = 2 ∨ k1 = 3) (hk2 : k2 = 2 ∨ k2 = 3) (b1 : In64 i1) (b2 : In64 i2)
    (HA : ∀ w : World, Calls Tryz.prog 112 #[.int .i64 op, .int .i64 (opdV k1 k2 k1 i1), .int .i64 (opdV k1 k2 k2 i2), .int .i64 (uuOf k1 k2)] w (RatPost R.1 R.2 w)) (w : World) :
    Calls Tryz.prog 88 #[.int .i64 op, .agg #[.int .i64 k1, .int .i64 i1, .string noText], .agg #[.int .i64 k2, .int .i64 i2, .string noText]] w (ResPost (recK R k1 i1 k2 i2) (recI R k1 i1 k2 i2) (recE R k1 i1 k2 i2) w) := by
  obtain ⟨V, B⟩ := R
  rcases hk1 with rfl | rfl <;> rcases hk2 with rfl | rfl
  · have := reckon_22 op i1 i2 V B w (Lib.hid (fun w => by simpa [opdV, uuOf] using HA w))
    simpa [recK, recI, recE, recB, opdB, kkOf] using this
  · cases hb : scB i1
    · have := reckon_23_no op i1 i2 (scV i1) i2 false true w (Lib.hid (fun w => hb ▸ scaled_int i1 noText w b1)) (Lib.hid (fun w => scaled_dec i2 noText w)) rfl
      simpa [recK, recI, recE, recB, opdB, kkOf, hb] using this
    · have := reckon_23 op i1 i2 (scV i1) i2 V B w (Lib.hid (fun w => hb ▸ scaled_int i1 noText w b1)) (Lib.hid (fun w => scaled_dec i2 noText w)) (Lib.hid (fun w => by simpa [opdV, uuOf] using HA w))
      simpa [recK, recI, recE, recB, opdB, kkOf, hb] using this
  · cases hb : scB i2
    · have := reckon_32_no op i1 i2 i1 (scV i2) true false w (Lib.hid (fun w => scaled_dec i1 noText w)) (Lib.hid (fun w => hb ▸ scaled_int i2 noText w b2)) rfl
      simpa [recK, recI, recE, recB, opdB, kkOf, hb] using this
    · have := reckon_32 op i1 i2 i1 (scV i2) V B w (Lib.hid (fun w => scaled_dec i1 noText w)) (Lib.hid (fun w => hb ▸ scaled_int i2 noText w b2)) (Lib.hid (fun w => by simpa [opdV, uuOf] using HA w))
      simpa [recK, recI, recE, recB, opdB, kkOf, hb] using this
  · have := reckon_33 op i1 i2 i1 i2 V B w (Lib.hid (fun w => scaled_dec i1 noText w)) (Lib.hid (fun w => scaled_dec i2 noText w)) (Lib.hid (fun w => by simpa [opdV, uuOf] using HA w))
    simpa [recK, recI, recE, recB, opdB, kkOf] using this

theorem opdV_swap (k1 k2 k i : Int) : opdV k2 k1 k i = opdV k1 k2 k i := by
  unfold opdV; simp only [and_comm (a := k2 = 2)]
theorem opdB_swap (k1 k2 k i : Int) : opdB k2 k1 k i = opdB k1 k2 k i := by
  unfold opdB; simp only [and_comm (a := k2 = 2)]
theorem uuOf_swap (k1 k2 : Int) : uuOf k2 k1 = uuOf k1 k2 := by
  unfold uuOf; simp only [and_comm (a := k2 = 2)]

theorem kkOf_swap (k1 k2 : Int) : kkOf k2 k1 = kkOf k1 k2 := by
  unfold kkOf; simp only [and_comm (a := k2 = 2)]

theorem rec_comm (R : Int × Bool) (k1 i1 k2 i2 : Int) : recB R k2 i2 k1 i1 = recB R k1 i1 k2 i2 ∧ recK R k2 i2 k1 i1 = recK R k1 i1 k2 i2 ∧ recI R k2 i2 k1 i1 = recI R k1 i1 k2 i2 ∧ recE R k2 i2 k1 i1 = recE R k1 i1 k2 i2 := by
  have hb : recB R k2 i2 k1 i1 = recB R k1 i1 k2 i2 := by
    unfold recB
    rw [opdB_swap k1 k2 k2 i2, opdB_swap k1 k2 k1 i1, Bool.and_comm (opdB k1 k2 k2 i2)]
  unfold recK recI recE
  rw [hb, kkOf_swap]
  exact ⟨rfl, rfl, rfl, rfl⟩

theorem scV_in (i : Int) : In64 (scV i) := by
  unfold scV In64
  split
  · omega
  · unfold ratV; split <;> unfold wrap64 <;> omega

theorem opdV_in {k1 k2 k i : Int} (h : In64 i) : In64 (opdV k1 k2 k i) := by
  unfold opdV; split
  · exact h
  · exact scV_in i

theorem tdiv_abs (i1 i2 : Int) : i1.tdiv i2 = if (decide (i1 < 0) != decide (i2 < 0)) then -((i1.natAbs / i2.natAbs : Nat) : Int) else ((i1.natAbs / i2.natAbs : Nat) : Int) := by
  have n : ∀ a : Nat, decide (Int.ofNat a < 0) = false := fun a => by simp
  have p : ∀ a : Nat, decide (Int.negSucc a < 0) = true := fun a => by simp [Int.negSucc_lt_zero]
  cases i1 with
  | ofNat a => cases i2 with
    | ofNat b => rw [n, n]; rfl
    | negSucc b => rw [n, p]; rfl
  | negSucc a => cases i2 with
    | ofNat b => rw [n, p]; rfl
    | negSucc b => rw [p, p]; rfl

theorem rat_fits (B : Bool) (q : Nat) (hb : ratB B q = true) : ratV B q = (if B then -(q : Int) else (q : Int)) ∧ In64 (if B then -(q : Int) else (q : Int)) := by
  unfold ratB at hb
  unfold ratV In64
  cases B
  · simp only [Bool.false_eq_true, if_false, decide_eq_true_eq] at hb ⊢
    unfold wrap64; omega
  · simp only [if_true, decide_eq_true_eq] at hb ⊢
    unfold wrap64; omega

end Go.Proofs.YtippffjhkinfoaaGreatDoor
