/-
  The contract of datum's Right at NULL, BOOL, INT and DEC, and of arity; no other condition; they make memory of their own alone.
  The contract of the reference's Compare of two values.
  The reference's arithmetic: a number as a whole one, what has room, and the four operations on two numbers.
  The reference's four operations on two numbers of one kind.
  Lists of values in memory; the reference's Bool, Many, only, has and Order.
  What the operators make of values, as plain functions: kind, number, error.
-/
import Derived.Test.YtippffjhkinfoaaGreatDoorSmall
import Derived.Test.YtippffjhkinfoaaGreatDoorRel
import Derived.Test.YtippffjhkinfoaaGreatDoorRowPure
import Derived.Test.YtippffjhkinfoaaGreatDoorOver
import Derived.Test.YtippffjhkinfoaaGreatDoorBig6
import Derived.Test.YtippffjhkinfoaaGreatDoorRecP
import Derived.Deep.RegionHeld3
import Derived.Deep.Cut
import Derived.Test.YtippffjhkinfoaaGreatDoorLogic2
import Derived.Test.YtippffjhkinfoaaGreatDoorValidAll
namespace Go.Proofs.YtippffjhkinfoaaGreatDoor
open Go.RowKit

/-- A value without a text that may be. -/
def okSmall (k i : Int) : Prop := (k = 0 ∧ i = 0) ∨ (k = 1 ∧ (i = 0 ∨ i = 1)) ∨ k = 2 ∨ k = 3

set_option maxHeartbeats 8000000 in
set_option maxRecDepth 100000 in
theorem right_yes (k i : Int) (w : World) (h : okSmall k i) :
    Calls Tryz.prog 27 #[.agg #[.int .i64 k, .int .i64 i, .string noText]] w fun e w' => e = .returned (.bool true) ∧ w' = w.alloc (.cells #[.int .i64 k, .int .i64 i, .string noText] 27) := by
  rcases h with ⟨rfl, rfl⟩ | ⟨rfl, rfl | rfl⟩ | rfl | rfl
  all_goals
    go_enter Tryz.func27, Tryz.ntmps27
    go_wp2
    go_ret
    exact ⟨rfl, rfl⟩

/-- How many arguments an operator has. -/
def arityR (op : Int) : Int :=
  if op = 1 ∨ op = 2 ∨ op = 15 ∨ op = 18 ∨ op = 19 ∨ op = 20 then 1
  else if 3 ≤ op ∧ op ≤ 14 then 2 else 0

set_option maxHeartbeats 8000000 in
theorem arity_one (op : Int) (w : World) (h : op = 1 ∨ op = 2 ∨ op = 15 ∨ op = 18 ∨ op = 19 ∨ op = 20) :
    Calls Tryz.prog 82 #[.int .i64 op] w fun e w' => e = .returned (.int .i64 1) ∧ w' = w := by
  rcases h with rfl | rfl | rfl | rfl | rfl | rfl
  all_goals
    go_enter Tryz.func82, Tryz.ntmps82
    go_wp2
    go_ret
    exact ⟨rfl, rfl⟩

set_option maxHeartbeats 8000000 in
theorem arity_two (op : Int) (w : World) (h : op = 3 ∨ op = 4 ∨ op = 5 ∨ op = 6 ∨ op = 7 ∨ op = 8 ∨ op = 9 ∨ op = 10 ∨ op = 11 ∨ op = 12 ∨ op = 13 ∨ op = 14) :
    Calls Tryz.prog 82 #[.int .i64 op] w fun e w' => e = .returned (.int .i64 2) ∧ w' = w := by
  rcases h with rfl | rfl | rfl | rfl | rfl | rfl | rfl | rfl | rfl | rfl | rfl | rfl
  all_goals
    go_enter Tryz.func82, Tryz.ntmps82
    go_wp2
    go_ret
    exact ⟨rfl, rfl⟩

end Go.Proofs.YtippffjhkinfoaaGreatDoor

namespace Go.Proofs.YtippffjhkinfoaaGreatDoor
open Go.RowKit

theorem bytesLess_cb : ∀ a b : List UInt8, Op.bytesLess a b = decide (Lib.compareBytes a b = -1)
  | [], [] => by simp [Op.bytesLess, Lib.compareBytes]
  | [], _ :: _ => by simp [Op.bytesLess, Lib.compareBytes]
  | _ :: _, [] => by simp [Op.bytesLess, Lib.compareBytes]
  | a :: x, b :: y => by
    have ih := bytesLess_cb x y
    rcases u8_tri a b with h | h | h
    · rw [cb_lt a b x y h]; simp [Op.bytesLess, h]
    · subst h; rw [cb_cons]; simp [Op.bytesLess, ih]
    · rw [cb_gt a b x y h]
      have h1 := u8_asymm h
      have h2 : ¬ a = b := by rintro rfl; exact u8_lt_irrefl a h
      simp [Op.bytesLess, h1, h2]

theorem toList_iff (s1 s2 : ByteArray) : s1.toList = s2.toList ↔ s1 = s2 := by
  constructor
  · intro h
    rw [ByteArray.toList_eq, ByteArray.toList_eq] at h
    exact ba_eq h
  · intro h; rw [h]

theorem run_eq_datum (k1 i1 : Int) (s1 : ByteArray) (k2 i2 : Int) (s2 : ByteArray) (w : World) :
    (binOp .eql 27 (.agg #[.int .i64 k1, .int .i64 i1, .string s1]) (.agg #[.int .i64 k2, .int .i64 i2, .string s2])).run Tryz.prog w = .ok (.bool (decide (k1 = k2 ∧ i1 = i2 ∧ s1 = s2))) w := by
  go_simp
  simp only [toList_iff]
  by_cases h1 : k1 = k2
  · by_cases h2 : i1 = i2
    · by_cases h3 : s1 = s2
      · simp [h1, h2, h3]
      · simp [h1, h2, h3]
    · simp [h1, h2]
  · simp [h1]

set_option maxRecDepth 100000 in
set_option maxHeartbeats 4000000 in
theorem refCmp_any (k1 i1 : Int) (s1 : ByteArray) (k2 i2 : Int) (s2 : ByteArray) (w : World) :
    Calls Tryz.prog 44 #[.agg #[.int .i64 k1, .int .i64 i1, .string s1], .agg #[.int .i64 k2, .int .i64 i2, .string s2]] w (IntPost (cmpD ⟨k1, i1, s1⟩ ⟨k2, i2, s2⟩) w) := by
  have hE := fun w => run_eq_datum k1 i1 s1 k2 i2 s2 w
  have hcmp : cmpD ⟨k1, i1, s1⟩ ⟨k2, i2, s2⟩ = ordD k1 i1 s1 k2 i2 s2 := rfl
  have hbel : Below w.heap.size w ((w.alloc (.cells #[.int .i64 k1, .int .i64 i1, .string s1] 27)).alloc (.cells #[.int .i64 k2, .int .i64 i2, .string s2] 27)) := ((Below.refl _ _).alloc (Nat.le_refl _) _).alloc (by simp) _
  have HB := Lib.hid hbel
  clear hbel
  by_cases hk : k1 = k2
  · by_cases hi : i1 = i2
    · have hr : cmpD ⟨k1, i1, s1⟩ ⟨k2, i2, s2⟩ = Lib.compareBytes s1.data.toList s2.data.toList := by rw [hcmp]; unfold ordD; rw [if_pos hk, if_pos hi]
      have hl := bytesLess_cb s1.toList s2.toList
      rw [ByteArray.toList_eq, ByteArray.toList_eq] at hl
      have hrange := cb_range s1.data.toList s2.data.toList
      subst hk hi
      by_cases hs : s1 = s2
      · have HR : Hid (cmpD ⟨k1, i1, s1⟩ ⟨k1, i1, s2⟩ = 0) := by unfold Hid; rw [hr, hs]; exact cb_self _
        have hls : Op.bytesLess s1.toList s2.toList = false := by rw [ByteArray.toList_eq, ByteArray.toList_eq, hl, hs, cb_self]; rfl
        subst hs
        clear hr hl hrange hcmp
        simp only [and_self, decide_true] at hE
        go_enter Tryz.func44, Tryz.ntmps44
        go_wp2
        go_ret
        exact ⟨by rw [HR.out]; rfl, HB.out⟩
      · have hE' : ∀ w, (binOp .eql 27 (.agg #[.int .i64 k1, .int .i64 i1, .string s1]) (.agg #[.int .i64 k1, .int .i64 i1, .string s2])).run Tryz.prog w = .ok (.bool false) w := fun w => by rw [hE w]; simp [hs]
        have hne : Lib.compareBytes s1.data.toList s2.data.toList ≠ 0 := fun e => hs (ba_eq (cb_eq _ _ e))
        by_cases hlt : Lib.compareBytes s1.data.toList s2.data.toList = -1
        · have HR : Hid (cmpD ⟨k1, i1, s1⟩ ⟨k1, i1, s2⟩ = -1) := by unfold Hid; rw [hr, hlt]
          have hls : Op.bytesLess s1.toList s2.toList = true := by rw [ByteArray.toList_eq, ByteArray.toList_eq, hl, hlt]; rfl
          clear hr hl hrange hcmp hE hs hne hlt
          go_enter Tryz.func44, Tryz.ntmps44
          go_wp2
          go_ret
          exact ⟨by rw [HR.out]; rfl, HB.out⟩
        · have h1 : Lib.compareBytes s1.data.toList s2.data.toList = 1 := by omega
          have HR : Hid (cmpD ⟨k1, i1, s1⟩ ⟨k1, i1, s2⟩ = 1) := by unfold Hid; rw [hr, h1]
          have hls : Op.bytesLess s1.toList s2.toList = false := by rw [ByteArray.toList_eq, ByteArray.toList_eq, hl, h1]; rfl
          clear hr hl hrange hcmp hE hs hne hlt h1
          go_enter Tryz.func44, Tryz.ntmps44
          go_wp2
          go_ret
          exact ⟨by rw [HR.out]; rfl, HB.out⟩
    · have hr : cmpD ⟨k1, i1, s1⟩ ⟨k2, i2, s2⟩ = ordI i1 i2 := by rw [hcmp]; unfold ordD; rw [if_pos hk, if_neg hi]
      subst hk
      have hE' : ∀ w, (binOp .eql 27 (.agg #[.int .i64 k1, .int .i64 i1, .string s1]) (.agg #[.int .i64 k1, .int .i64 i2, .string s2])).run Tryz.prog w = .ok (.bool false) w := fun w => by rw [hE w]; simp [hi]
      have hb : (i1 == i2) = false := by simpa using hi
      by_cases hlt : i1 < i2
      · have HR : Hid (cmpD ⟨k1, i1, s1⟩ ⟨k1, i2, s2⟩ = -1) := by unfold Hid; rw [hr]; unfold ordI; rw [if_pos hlt]
        clear hr hcmp hE hi
        go_enter Tryz.func44, Tryz.ntmps44
        go_wp2
        go_ret
        exact ⟨by rw [HR.out]; rfl, HB.out⟩
      · have HR : Hid (cmpD ⟨k1, i1, s1⟩ ⟨k1, i2, s2⟩ = 1) := by unfold Hid; rw [hr]; unfold ordI; rw [if_neg hlt, if_pos (by omega)]
        clear hr hcmp hE hi
        go_enter Tryz.func44, Tryz.ntmps44
        go_wp2
        go_ret
        exact ⟨by rw [HR.out]; rfl, HB.out⟩
  · have hr : cmpD ⟨k1, i1, s1⟩ ⟨k2, i2, s2⟩ = ordI k1 k2 := by rw [hcmp]; unfold ordD; rw [if_neg hk]
    have hE' : ∀ w, (binOp .eql 27 (.agg #[.int .i64 k1, .int .i64 i1, .string s1]) (.agg #[.int .i64 k2, .int .i64 i2, .string s2])).run Tryz.prog w = .ok (.bool false) w := fun w => by rw [hE w]; simp [hk]
    have hb : (k1 == k2) = false := by simpa using hk
    by_cases hlt : k1 < k2
    · have HR : Hid (cmpD ⟨k1, i1, s1⟩ ⟨k2, i2, s2⟩ = -1) := by unfold Hid; rw [hr]; unfold ordI; rw [if_pos hlt]
      clear hr hcmp hE hk
      go_enter Tryz.func44, Tryz.ntmps44
      go_wp2
      go_ret
      exact ⟨by rw [HR.out]; rfl, HB.out⟩
    · have HR : Hid (cmpD ⟨k1, i1, s1⟩ ⟨k2, i2, s2⟩ = 1) := by unfold Hid; rw [hr]; unfold ordI; rw [if_neg hlt, if_pos (by omega)]
      clear hr hcmp hE hk
      go_enter Tryz.func44, Tryz.ntmps44
      go_wp2
      go_ret
      exact ⟨by rw [HR.out]; rfl, HB.out⟩


end Go.Proofs.YtippffjhkinfoaaGreatDoor

namespace Go.Proofs.YtippffjhkinfoaaGreatDoor
open Go.RowKit

def fitK (kind z : Int) : Int := if fitsB z then kind else 0
def fitI (z : Int) : Int := if fitsB z then z else 0
def fitE (z : Int) : Int := if fitsB z then 0 else 4
/-- A number of that kind, if it has room; else the error 4. -/
def FitRes (kind z : Int) (w : World) : Ending → World → Prop := ResPost (fitK kind z) (fitI z) (fitE z) w

theorem big_len {m : Bool} {L : List Int} {z : Int} {n : Nat} (h : Norm L) (hz : zOf m L = z) (h0 : -pw n < z) (h1 : z < pw n) : L.length ≤ n := by
  refine h.len_of ?_
  unfold zOf at hz
  cases m
  · have : valD L = z := hz
    omega
  · have : -valD L = z := hz
    omega

theorem big_of (i : Int) (w : World) (h0 : -9223372036854775808 ≤ i) (h1 : i ≤ 9223372036854775807) :
    Calls Tryz.prog 50 #[.int .i64 i] w (BigPost i w) := by
  refine (of_any i w h0 h1).mono ?_
  rintro e w' ⟨v', L, rfl, hD, hN, hV, hB⟩
  refine ⟨_, v', L, rfl, hD, hN, ?_, hB⟩
  by_cases hi : i < 0
  · rw [decide_eq_true hi]
    show -valD L = i
    rw [hV, if_pos hi]; omega
  · rw [decide_eq_false hi]
    show valD L = i
    rw [hV, if_neg hi]

theorem big_times (m1 m2 : Bool) (v1 v2 : Value) (L1 L2 : List Int) (w : World) (h1 : DigV w v1 L1) (h2 : DigV w v2 L2) (n1 : Norm L1) (n2 : Norm L2) (hl : L1.length + L2.length ≤ 5000) (z1 z2 : Int) (e1 : zOf m1 L1 = z1) (e2 : zOf m2 L2 = z2) :
    Calls Tryz.prog 67 #[.agg #[.bool m1, v1], .agg #[.bool m2, v2]] w (BigPost (z1 * z2) w) := by
  have h := bigTimes_any m1 m2 v1 v2 L1 L2 w h1 h2 n1.1 n2.1 hl
  rw [e1, e2] at h
  exact h
/-- A whole number, the sign of which stands where it is not 0 alone. -/
def BigPost2 (z : Int) (w : World) (e : Ending) (w' : World) : Prop := ∃ m sl L, e = .returned (.agg #[.bool m, sl]) ∧ DigB w' w.heap.size sl L ∧ Norm L ∧ zOf m L = z ∧ (m = true → 0 < L.length) ∧ Below w.heap.size w w'
theorem BigPost2.weak {z : Int} {w : World} {e : Ending} {w' : World} (h : BigPost2 z w e w') : BigPost z w e w' := by
  obtain ⟨m, sl, L, h1, h2, h3, h4, _, h6⟩ := h
  exact ⟨m, sl, L, h1, h2, h3, h4, h6⟩
theorem big_of2 (i : Int) (w : World) (h0 : -9223372036854775808 ≤ i) (h1 : i ≤ 9223372036854775807) :
    Calls Tryz.prog 50 #[.int .i64 i] w (BigPost2 i w) := by
  refine (of_any i w h0 h1).mono ?_
  rintro e w' ⟨v', L, rfl, hD, hN, hV, hB⟩
  by_cases hi : i < 0
  · refine ⟨_, _, _, rfl, hD, hN, ?_, fun _ => ?_, hB⟩
    · rw [decide_eq_true hi]
      show -valD L = i
      rw [hV, if_pos hi]; omega
    · rw [if_pos hi] at hV
      cases L with
      | nil => have : valD [] = 0 := rfl; omega
      | cons x t => simp
  · refine ⟨_, _, _, rfl, hD, hN, ?_, fun h => ?_, hB⟩
    · rw [decide_eq_false hi]
      show valD L = i
      rw [hV, if_neg hi]
    · rw [decide_eq_false hi] at h
      cases h
theorem big_times2 (m1 m2 : Bool) (v1 v2 : Value) (L1 L2 : List Int) (w : World) (h1 : DigV w v1 L1) (h2 : DigV w v2 L2) (n1 : Norm L1) (n2 : Norm L2) (hl : L1.length + L2.length ≤ 5000) (z1 z2 : Int) (e1 : zOf m1 L1 = z1) (e2 : zOf m2 L2 = z2) :
    Calls Tryz.prog 67 #[.agg #[.bool m1, v1], .agg #[.bool m2, v2]] w (BigPost2 (z1 * z2) w) := by
  refine (times_any m1 m2 v1 v2 L1 L2 w h1 h2 n1.1 n2.1 hl).mono ?_
  rintro e w' ⟨v', L, rfl, hD, hN, hV, hB⟩
  refine ⟨_, v', L, rfl, hD, hN, ?_, fun h => ?_, hB⟩
  · subst e1 e2
    cases m1 <;> cases m2
    · show valD L = valD L1 * valD L2
      exact hV
    · show zOf (decide (0 < L.length)) L = valD L1 * -valD L2
      rw [zOf_dec, hV, Int.mul_neg]
    · show zOf (decide (0 < L.length)) L = -valD L1 * valD L2
      rw [zOf_dec, hV, Int.neg_mul]
    · show valD L = -valD L1 * -valD L2
      rw [hV, Int.neg_mul_neg]
  · rw [Bool.and_eq_true] at h
    exact of_decide_eq_true h.2
theorem big_plus (m1 m2 : Bool) (v1 v2 : Value) (L1 L2 : List Int) (w : World) (h1 : DigV w v1 L1) (h2 : DigV w v2 L2) (n1 : Norm L1) (n2 : Norm L2) (l1 : L1.length ≤ 5000) (l2 : L2.length ≤ 5000) (z1 z2 : Int) (e1 : zOf m1 L1 = z1) (e2 : zOf m2 L2 = z2) :
    Calls Tryz.prog 69 #[.agg #[.bool m1, v1], .agg #[.bool m2, v2]] w (BigPost (z1 + z2) w) := by
  have h := bigPlus_any m1 m2 v1 v2 L1 L2 w h1 h2 n1 n2 l1 l2
  rw [e1, e2] at h
  exact h
theorem big_minus (m : Bool) (v : Value) (L : List Int) (w : World) (h : DigV w v L) (z : Int) (e : zOf m L = z) :
    Calls Tryz.prog 49 #[.agg #[.bool m, v]] w fun e w' => ∃ m', e = .returned (.agg #[.bool m', v]) ∧ zOf m' L = -z ∧ Below w.heap.size w w' := by
  refine (minus_any m v L w h).mono ?_
  rintro e' w' ⟨rfl, hB⟩
  refine ⟨_, rfl, ?_, hB⟩
  subst e
  cases m
  · show zOf (decide (0 < L.length)) L = -valD L
    exact zOf_dec L
  · show valD L = - -valD L
    omega
theorem fits_f (m : Bool) (v : Value) (L : List Int) (w : World) (h : DigV w v L) (hn : Norm L) (hl : L.length ≤ 5000) (z : Int) (e : zOf m L = z) :
    Calls Tryz.prog 47 #[.agg #[.bool m, v]] w fun e w' => e = .returned (.tuple #[.int .i64 (fitI z), .bool (fitsB z)]) ∧ Below w.heap.size w w' := by
  subst e
  exact fits_any m v L w h hn hl
theorem over_f (m1 m2 : Bool) (v1 v2 : Value) (L1 L2 : List Int) (w : World) (h1 : DigV w v1 L1) (h2 : DigV w v2 L2) (n1 : Norm L1) (n2 : Norm L2) (l1 : L1.length ≤ 1000) (l2 : L2.length ≤ 1000) (z1 z2 : Int) (e1 : zOf m1 L1 = z1) (e2 : zOf m2 L2 = z2) (hy : z2 ≠ 0) :
    Calls Tryz.prog 70 #[.agg #[.bool m1, v1], .agg #[.bool m2, v2]] w fun e w' => e = .returned (.tuple #[.int .i64 (fitI (z1.tdiv z2)), .bool (fitsB (z1.tdiv z2))]) ∧ Below w.heap.size w w' := by
  subst e1 e2
  refine over_any m1 m2 v1 v2 L1 L2 w h1 h2 n1 n2 l1 l2 ?_
  have := (valD_bound n2.1).1
  unfold zOf at hy
  cases m2
  · have : valD L2 ≠ 0 := hy
    omega
  · have : -valD L2 ≠ 0 := hy
    omega

set_option maxRecDepth 100000 in
set_option maxHeartbeats 4000000 in
theorem result_yes (kind i : Int) (w : World) :
    Calls Tryz.prog 48 #[.int .i64 kind, .int .i64 i, .bool true] w (ResPost kind i 0 w) := by
  have hB0 := Lib.hid (Blk.new w #[.int .i64 0, .int .i64 0, .string noText] 27)
  go_enter Tryz.func48, Tryz.ntmps48
  go_wp2
  refine bodyPost_ret (v := .tuple #[.agg #[.int .i64 kind, .int .i64 i, .string noText], .int .i64 0]) ?_ rfl ⟨rfl, ?_⟩
  · simp [results, Tryz.results48, go_sem]
  · exact (Below.refl _ _).alloc (Nat.le_refl _) _

set_option maxRecDepth 100000 in
set_option maxHeartbeats 4000000 in
theorem result_no (kind i : Int) (w : World) :
    Calls Tryz.prog 48 #[.int .i64 kind, .int .i64 i, .bool false] w (ResPost 0 0 4 w) := by
  go_enter Tryz.func48, Tryz.ntmps48
  go_wp2
  refine bodyPost_ret (v := .tuple #[.agg #[.int .i64 0, .int .i64 0, .string noText], .int .i64 4]) ?_ rfl ⟨rfl, ?_⟩
  · simp [results, Tryz.results48, go_sem]
  · exact (Below.refl _ _).alloc (Nat.le_refl _) _

theorem result_f (kind z : Int) (w : World) :
    Calls Tryz.prog 48 #[.int .i64 kind, .int .i64 (fitI z), .bool (fitsB z)] w (FitRes kind z w) := by
  unfold FitRes fitK fitI fitE
  cases fitsB z
  · exact result_no _ _ _
  · exact result_yes _ _ _

/-- What a number times ten thousand is. -/
def numZ (k i : Int) : Int := if k = 2 then i * 10000 else i

set_option maxRecDepth 100000 in
set_option maxHeartbeats 4000000 in
theorem number_int (i : Int) (s : ByteArray) (w : World) (h0 : -9223372036854775808 ≤ i) (h1 : i ≤ 9223372036854775807) :
    Calls Tryz.prog 46 #[.agg #[.int .i64 2, .int .i64 i, .string s]] w (BigPost2 (i * 10000) w) := by
  have HOF := Lib.hid (fun w => big_of i w h0 h1)
  have hb2 := ((Below.refl w.heap.size w).alloc (Nat.le_refl _) (Obj.cells #[.int .i64 2, .int .i64 i, .string s] 27)).alloc (by simp) (Obj.cells #[Value.bool false, Value.slice none 0 0] 73)
  have bR : Blk ((w.alloc (Obj.cells #[.int .i64 2, .int .i64 i, .string s] 27)).alloc (Obj.cells #[Value.bool false, Value.slice none 0 0] 73)) (w.heap.size + 1) _ _ := Blk.atB (by simp)
  go_enter Tryz.func46, Tryz.ntmps46
  go_wp2_with (first
    | (go_at_call 50; (with_reducible refine (HOF.out _).mono ?_); rintro e w3 ⟨m3, v3, L3, rfl, hd3, hn3, hz3, hb3⟩; obtain ⟨A3, c3, rfl, _, _⟩ := DigV.open hd3.1; have l3 := big_len (n := 4) hn3 hz3 (by have e : pw 4 = 1000000000000000000000000 := (by decide); omega) (by have e : pw 4 = 1000000000000000000000000 := (by decide); omega))
    | (go_at_call 50; (with_reducible refine (big_of 10000 _ (by decide) (by decide)).mono ?_); rintro e w4 ⟨m4, v4, L4, rfl, hd4, hn4, hz4, hb4⟩; obtain ⟨A4, c4, rfl, _, _⟩ := DigV.open hd4.1; have l4 := big_len (n := 4) hn4 hz4 (by have e : pw 4 = 1000000000000000000000000 := (by decide); omega) (by have e : pw 4 = 1000000000000000000000000 := (by decide); omega))
    | (go_at_call 67; have hT := big_times2 m3 m4 _ _ L3 L4 w4 (hd3.1.below hb4) hd4.1 hn3 hn4 (by omega) _ _ hz3 hz4; (with_reducible refine hT.mono ?_); clear hT; rintro e w5 ⟨m5, v5, L5, rfl, hd5, hn5, hz5, hs5, hb5⟩; obtain ⟨A5, c5, rfl, _, _⟩ := DigV.open hd5.1; have bR5 := (((bR.below hb3).below hb4).below hb5); have q3 := hb3.size; have q4 := hb4.size; have r0 := bR5.cell 0; have r1 := bR5.cell 1; have f0 := bR5.frozen 0; have f1 := bR5.frozen 1; simp only [List.getElem?_toArray, List.getElem?_cons_zero, List.getElem?_cons_succ] at r0 r1))
  have bR4 := (bR.below hb3).below hb4
  have lR := bR4.lt
  have bF := (bR5.set 0 (.bool m5)).set 1 (.slice A5 L5.length c5)
  have d0 := bF.cell 0
  have d1 := bF.cell 1
  simp only [List.setIfInBounds_toArray, List.set_cons_zero, List.set_cons_succ, List.getElem?_toArray, List.getElem?_cons_zero, List.getElem?_cons_succ] at d0 d1
  refine bodyPost_ret (v := .agg #[.bool m5, .slice A5 L5.length c5]) (by simp [results, Tryz.results46, go_sem, d0, d1]) rfl ⟨_, _, _, rfl, ((hd5.set lR).set lR).more (by omega), hn5, hz5, hs5, ?_⟩
  exact ((((hb2.trans (hb3.mono hb2.size)).trans (hb4.mono (hb2.trans (hb3.mono hb2.size)).size)).trans (hb5.mono ((hb2.trans (hb3.mono hb2.size)).trans (hb4.mono (hb2.trans (hb3.mono hb2.size)).size)).size)).setCell (by simp) _).setCell (by simp) _

set_option maxRecDepth 100000 in
set_option maxHeartbeats 4000000 in
theorem number_dec (k i : Int) (s : ByteArray) (w : World) (hk : k ≠ 2) (h0 : -9223372036854775808 ≤ i) (h1 : i ≤ 9223372036854775807) :
    Calls Tryz.prog 46 #[.agg #[.int .i64 k, .int .i64 i, .string s]] w (BigPost2 i w) := by
  have HOF := Lib.hid (fun w => big_of2 i w h0 h1)
  have hk' : (k == 2) = false := by simpa using hk
  have hb2 := ((Below.refl w.heap.size w).alloc (Nat.le_refl _) (Obj.cells #[.int .i64 k, .int .i64 i, .string s] 27)).alloc (by simp) (Obj.cells #[Value.bool false, Value.slice none 0 0] 73)
  have bR : Blk ((w.alloc (Obj.cells #[.int .i64 k, .int .i64 i, .string s] 27)).alloc (Obj.cells #[Value.bool false, Value.slice none 0 0] 73)) (w.heap.size + 1) _ _ := Blk.atB (by simp)
  clear hk
  go_enter Tryz.func46, Tryz.ntmps46
  go_wp2_with (go_at_call 50; (with_reducible refine (HOF.out _).mono ?_); rintro e w5 ⟨m5, v5, L5, rfl, hd5, hn5, hz5, hs5, hb5⟩; obtain ⟨A5, c5, rfl, _, _⟩ := DigV.open hd5.1; have bR5 := bR.below hb5; have r0 := bR5.cell 0; have r1 := bR5.cell 1; have f0 := bR5.frozen 0; have f1 := bR5.frozen 1; simp only [List.getElem?_toArray, List.getElem?_cons_zero, List.getElem?_cons_succ] at r0 r1)
  have lR := bR.lt
  have bF := (bR5.set 0 (.bool m5)).set 1 (.slice A5 L5.length c5)
  have d0 := bF.cell 0
  have d1 := bF.cell 1
  simp only [List.setIfInBounds_toArray, List.set_cons_zero, List.set_cons_succ, List.getElem?_toArray, List.getElem?_cons_zero, List.getElem?_cons_succ] at d0 d1
  refine bodyPost_ret (v := .agg #[.bool m5, .slice A5 L5.length c5]) (by simp [results, Tryz.results46, go_sem, d0, d1]) rfl ⟨_, _, _, rfl, ((hd5.set lR).set lR).more (by simp; try omega), hn5, hz5, hs5, ?_⟩
  exact ((hb2.trans (hb5.mono hb2.size)).setCell (by simp) _).setCell (by simp) _

theorem number_f2 (k i : Int) (s : ByteArray) (w : World) (h0 : -9223372036854775808 ≤ i) (h1 : i ≤ 9223372036854775807) :
    Calls Tryz.prog 46 #[.agg #[.int .i64 k, .int .i64 i, .string s]] w (BigPost2 (numZ k i) w) := by
  unfold numZ
  by_cases hk : k = 2
  · subst hk
    rw [if_pos rfl]
    exact number_int i s w h0 h1
  · rw [if_neg hk]
    exact number_dec k i s w hk h0 h1

theorem number_f (k i : Int) (s : ByteArray) (w : World) (h0 : -9223372036854775808 ≤ i) (h1 : i ≤ 9223372036854775807) :
    Calls Tryz.prog 46 #[.agg #[.int .i64 k, .int .i64 i, .string s]] w (BigPost (numZ k i) w) :=
  (number_f2 k i s w h0 h1).mono fun _ _ h => h.weak

/-- A bound for what the reference reckons with. -/
def InZ (z : Int) : Prop := -100000000000000000000000 ≤ z ∧ z ≤ 100000000000000000000000
theorem inz_mul {a b : Int} (ha : InZ a) (hb : InZ b) : -pw 8 < a * b ∧ a * b < pw 8 := by
  have e : pw 8 = 1000000000000000000000000000000000000000000000000 := by decide
  rw [e]
  unfold InZ at ha hb
  have h1 : (a * b).natAbs = a.natAbs * b.natAbs := Int.natAbs_mul a b
  have h2 : a.natAbs * b.natAbs ≤ 100000000000000000000000 * 100000000000000000000000 := Nat.mul_le_mul (by omega) (by omega)
  omega
theorem inz_pw {a : Int} (ha : InZ a) : -pw 4 < a ∧ a < pw 4 := by
  have e : pw 4 = 1000000000000000000000000 := by decide
  rw [e]
  unfold InZ at ha
  omega
theorem inz_sum {a b : Int} (ha : InZ a) (hb : InZ b) : -pw 4 < a + b ∧ a + b < pw 4 := by
  have e : pw 4 = 1000000000000000000000000 := by decide
  rw [e]
  unfold InZ at ha hb
  omega
theorem inz_neg {a : Int} (ha : InZ a) : InZ (-a) := by
  unfold InZ at *
  omega

end Go.Proofs.YtippffjhkinfoaaGreatDoor

namespace Go.Proofs.YtippffjhkinfoaaGreatDoor
open Go.RowKit

theorem zOf_nil {m : Bool} {L : List Int} (h : Norm L) (hz : zOf m L = 0) : L.length = 0 := by
  rcases Nat.eq_zero_or_pos L.length with q | q
  · exact q
  · have h1 := h.low 0 q
    have e : pw 0 = 1 := rfl
    unfold zOf at hz
    cases m
    · have : valD L = 0 := hz
      omega
    · have : -valD L = 0 := hz
      omega
theorem zOf_some {m : Bool} {L : List Int} (hz : zOf m L ≠ 0) : 0 < L.length := by
  cases L with
  | nil => exact absurd (by cases m <;> rfl) hz
  | cons x t => simp
theorem inz_unit {a : Int} (h0 : 0 < a) (h1 : a ≤ 10000) : InZ a := by unfold InZ; omega

set_option maxRecDepth 100000 in
set_option maxHeartbeats 8000000 in
theorem two_add (kind unit z1 z2 : Int) (m1 m2 : Bool) (v1 v2 : Value) (L1 L2 : List Int) (w : World) (h1 : DigV w v1 L1) (h2 : DigV w v2 L2) (n1 : Norm L1) (n2 : Norm L2) (e1 : zOf m1 L1 = z1) (e2 : zOf m2 L2 = z2) (b1 : InZ z1) (b2 : InZ z2) :
    Calls Tryz.prog 51 #[.int .i64 3, .int .i64 kind, .agg #[.bool m1, v1], .agg #[.bool m2, v2], .int .i64 unit] w (FitRes kind (z1 + z2) w) := by
  have l1 := big_len n1 e1 (inz_pw b1).1 (inz_pw b1).2
  have l2 := big_len n2 e2 (inz_pw b2).1 (inz_pw b2).2
  obtain ⟨A1, c1, rfl, _, _⟩ := DigV.open h1
  obtain ⟨A2, c2, rfl, _, _⟩ := DigV.open h2
  have D1 := Lib.hid h1
  have D2 := Lib.hid h2
  have N1 := Lib.hid n1
  have N2 := Lib.hid n2
  have E1 := Lib.hid e1
  have E2 := Lib.hid e2
  have B1 := Lib.hid b1
  have B2 := Lib.hid b2
  clear h1 h2 n1 n2 e1 e2 b1 b2
  obtain ⟨W, hW⟩ : ∃ W, ((w.alloc (Obj.cells #[.bool m1, .slice A1 L1.length c1] 73)).alloc (Obj.cells #[.bool m2, .slice A2 L2.length c2] 73)).alloc (Obj.cells #[.int .i64 0, .int .i64 0, .string noText] 27) = W := ⟨_, rfl⟩
  have hb3 : Below w.heap.size w W := by
    rw [← hW]
    exact (((Below.refl w.heap.size w).alloc (Nat.le_refl _) _).alloc (by simp) _).alloc (by simp; omega) _
  have bA : Blk W w.heap.size #[.bool m1, .slice A1 L1.length c1] 73 := by
    rw [← hW]
    exact ((Blk.new w _ _).alloc _).alloc _
  have bB : Blk W (w.heap.size + 1) #[.bool m2, .slice A2 L2.length c2] 73 := by
    rw [← hW]
    exact (Blk.atB (by simp)).alloc _
  have bR : Blk W (w.heap.size + 1 + 1) #[.int .i64 0, .int .i64 0, .string noText] 27 := by
    rw [← hW]
    exact Blk.atB (by simp)
  have HW := Lib.hid hW
  clear hW
  have y0 := bA.cell 0
  have y1 := bA.cell 1
  have y2 := bB.cell 0
  have y3 := bB.cell 1
  simp only [List.getElem?_toArray, List.getElem?_cons_zero, List.getElem?_cons_succ] at y0 y1 y2 y3
  go_enter Tryz.func51, Tryz.ntmps51
  go_upto_region 1 with fail
  rw [HW.out]
  go_wp2_with (first
    | (go_at_call 69; have hC := big_plus m1 m2 _ _ L1 L2 W (D1.out.below hb3) (D2.out.below hb3) N1.out N2.out (by omega) (by omega) _ _ E1.out E2.out; (with_reducible refine hC.mono ?_); clear hC; rintro e w4 ⟨m4, v4, L4, rfl, hd4, hn4, hz4, hb4⟩; obtain ⟨A4, c4, rfl, _, _⟩ := DigV.open hd4.1; have h4 : Below w.heap.size w w4 := hb3.trans (hb4.mono hb3.size); have bR4 := bR.below hb4; have l4 := big_len hn4 hz4 (inz_sum B1.out B2.out).1 (inz_sum B1.out B2.out).2)
    | (go_at_call 47; have hC := fits_f m4 _ L4 w4 hd4.1 hn4 (by omega) _ hz4; (with_reducible refine hC.mono ?_); clear hC; rintro e w5 ⟨rfl, hb5⟩; have h5 : Below w.heap.size w w5 := h4.trans (hb5.mono h4.size); have bR5 := bR4.below hb5)
    | (go_at_call 48; have hC := result_f kind (z1 + z2) w5; (with_reducible refine hC.mono ?_); clear hC; rintro e w6 ⟨rfl, hb6⟩; have h6 : Below w.heap.size w w6 := h5.trans (hb6.mono h5.size); have bR6 := bR5.below hb6; have r0 := bR6.cell 0; have r1 := bR6.cell 1; have r2 := bR6.cell 2; have f0 := bR6.frozen 0; have f1 := bR6.frozen 1; have f2 := bR6.frozen 2; simp only [List.getElem?_toArray, List.getElem?_cons_zero, List.getElem?_cons_succ] at r0 r1 r2))
  refine bodyPost_ret ?_ rfl ⟨rfl, ?_⟩
  · simp [results, Tryz.results51, go_sem, r0, r1, r2]
  · exact (((h6.setCell (by simp; try omega) _).setCell (by simp; try omega) _).setCell (by simp; try omega) _)

set_option maxRecDepth 100000 in
set_option maxHeartbeats 8000000 in
theorem two_sub (kind unit z1 z2 : Int) (m1 m2 : Bool) (v1 v2 : Value) (L1 L2 : List Int) (w : World) (h1 : DigV w v1 L1) (h2 : DigV w v2 L2) (n1 : Norm L1) (n2 : Norm L2) (e1 : zOf m1 L1 = z1) (e2 : zOf m2 L2 = z2) (b1 : InZ z1) (b2 : InZ z2) :
    Calls Tryz.prog 51 #[.int .i64 4, .int .i64 kind, .agg #[.bool m1, v1], .agg #[.bool m2, v2], .int .i64 unit] w (FitRes kind (z1 + -z2) w) := by
  have l1 := big_len n1 e1 (inz_pw b1).1 (inz_pw b1).2
  have l2 := big_len n2 e2 (inz_pw b2).1 (inz_pw b2).2
  obtain ⟨A1, c1, rfl, _, _⟩ := DigV.open h1
  obtain ⟨A2, c2, rfl, _, _⟩ := DigV.open h2
  have D1 := Lib.hid h1
  have D2 := Lib.hid h2
  have N1 := Lib.hid n1
  have N2 := Lib.hid n2
  have E1 := Lib.hid e1
  have E2 := Lib.hid e2
  have B1 := Lib.hid b1
  have B2 := Lib.hid b2
  clear h1 h2 n1 n2 e1 e2 b1 b2
  obtain ⟨W, hW⟩ : ∃ W, ((w.alloc (Obj.cells #[.bool m1, .slice A1 L1.length c1] 73)).alloc (Obj.cells #[.bool m2, .slice A2 L2.length c2] 73)).alloc (Obj.cells #[.int .i64 0, .int .i64 0, .string noText] 27) = W := ⟨_, rfl⟩
  have hb3 : Below w.heap.size w W := by
    rw [← hW]
    exact (((Below.refl w.heap.size w).alloc (Nat.le_refl _) _).alloc (by simp) _).alloc (by simp; omega) _
  have bA : Blk W w.heap.size #[.bool m1, .slice A1 L1.length c1] 73 := by
    rw [← hW]
    exact ((Blk.new w _ _).alloc _).alloc _
  have bB : Blk W (w.heap.size + 1) #[.bool m2, .slice A2 L2.length c2] 73 := by
    rw [← hW]
    exact (Blk.atB (by simp)).alloc _
  have bR : Blk W (w.heap.size + 1 + 1) #[.int .i64 0, .int .i64 0, .string noText] 27 := by
    rw [← hW]
    exact Blk.atB (by simp)
  have HW := Lib.hid hW
  clear hW
  have y0 := bA.cell 0
  have y1 := bA.cell 1
  have y2 := bB.cell 0
  have y3 := bB.cell 1
  simp only [List.getElem?_toArray, List.getElem?_cons_zero, List.getElem?_cons_succ] at y0 y1 y2 y3
  go_enter Tryz.func51, Tryz.ntmps51
  go_upto_region 1 with fail
  rw [HW.out]
  go_wp2_with fail
  go_region_held3 (fun w' => w'.cell? ⟨w.heap.size, 0, none⟩ = some (.bool m1) ∧ w'.cell? ⟨w.heap.size, 1, none⟩ = some (.slice A1 L1.length c1) ∧ w'.cell? ⟨w.heap.size + 1, 0, none⟩ = some (.bool m2) ∧ w'.cell? ⟨w.heap.size + 1, 1, none⟩ = some (.slice A2 L2.length c2)) (first | exact ⟨y60, y61, y62, y63⟩ | exact ⟨y50, y51, y52, y53⟩ | exact ⟨y40, y41, y42, y43⟩ | exact ⟨y0, y1, y2, y3⟩) ((first
    | (go_at_call 49; have hC := big_minus m2 _ L2 W.drew (D2.out.below hb3.drew) _ E2.out; (with_reducible refine hC.mono ?_); clear hC; rintro e w4 ⟨m4, rfl, hz4, hb4⟩; have h4 : Below w.heap.size w w4 := hb3.drew.trans (hb4.mono hb3.drew.size); have bR4 := bR.drew.below hb4; have bA4 := bA.drew.below hb4; have bB4 := bB.drew.below hb4; have y40 := bA4.cell 0; have y41 := bA4.cell 1; have y42 := bB4.cell 0; have y43 := bB4.cell 1; simp only [List.getElem?_toArray, List.getElem?_cons_zero, List.getElem?_cons_succ] at y40 y41 y42 y43)
    | (go_at_call 69; have hC := big_plus m1 m4 _ _ L1 L2 w4 (D1.out.below h4) (D2.out.below h4) N1.out N2.out (by omega) (by omega) _ _ E1.out hz4; (with_reducible refine hC.mono ?_); clear hC; rintro e w5 ⟨m5, v5, L5, rfl, hd5, hn5, hz5, hb5⟩; obtain ⟨A5, c5, rfl, _, _⟩ := DigV.open hd5.1; have h5 : Below w.heap.size w w5 := h4.trans (hb5.mono h4.size); have bR5 := bR4.below hb5; have bA5 := bA4.below hb5; have bB5 := bB4.below hb5; have y50 := bA5.cell 0; have y51 := bA5.cell 1; have y52 := bB5.cell 0; have y53 := bB5.cell 1; simp only [List.getElem?_toArray, List.getElem?_cons_zero, List.getElem?_cons_succ] at y50 y51 y52 y53; have l5 := big_len hn5 hz5 (inz_sum B1.out (inz_neg B2.out)).1 (inz_sum B1.out (inz_neg B2.out)).2)
    | (go_at_call 47; have hC := fits_f m5 _ L5 w5 hd5.1 hn5 (by omega) _ hz5; (with_reducible refine hC.mono ?_); clear hC; rintro e w6 ⟨rfl, hb6⟩; have h6 : Below w.heap.size w w6 := h5.trans (hb6.mono h5.size); have bR6 := bR5.below hb6; have bA6 := bA5.below hb6; have bB6 := bB5.below hb6; have y60 := bA6.cell 0; have y61 := bA6.cell 1; have y62 := bB6.cell 0; have y63 := bB6.cell 1; simp only [List.getElem?_toArray, List.getElem?_cons_zero, List.getElem?_cons_succ] at y60 y61 y62 y63)))
  go_step
  go_step
  go_wp2_with (go_at_call 48; have hC := result_f kind (z1 + -z2) w6; (with_reducible refine hC.mono ?_); clear hC; rintro e w7 ⟨rfl, hb7⟩; have h7 : Below w.heap.size w w7 := h6.trans (hb7.mono h6.size); have bR7 := bR6.below hb7; have r0 := bR7.cell 0; have r1 := bR7.cell 1; have r2 := bR7.cell 2; have f0 := bR7.frozen 0; have f1 := bR7.frozen 1; have f2 := bR7.frozen 2; simp only [List.getElem?_toArray, List.getElem?_cons_zero, List.getElem?_cons_succ] at r0 r1 r2)
  refine bodyPost_ret ?_ rfl ⟨rfl, ?_⟩
  · simp [results, Tryz.results51, go_sem, r0, r1, r2]
  · exact (((h7.setCell (by simp; try omega) _).setCell (by simp; try omega) _).setCell (by simp; try omega) _)

set_option maxRecDepth 100000 in
set_option maxHeartbeats 8000000 in
theorem two_mul (kind unit z1 z2 : Int) (m1 m2 : Bool) (v1 v2 : Value) (L1 L2 : List Int) (w : World) (h1 : DigV w v1 L1) (h2 : DigV w v2 L2) (n1 : Norm L1) (n2 : Norm L2) (e1 : zOf m1 L1 = z1) (e2 : zOf m2 L2 = z2) (b1 : InZ z1) (b2 : InZ z2) (u0 : 0 < unit) (u1 : unit ≤ 10000) :
    Calls Tryz.prog 51 #[.int .i64 5, .int .i64 kind, .agg #[.bool m1, v1], .agg #[.bool m2, v2], .int .i64 unit] w (FitRes kind ((z1 * z2).tdiv unit) w) := by
  have l1 := big_len n1 e1 (inz_pw b1).1 (inz_pw b1).2
  have l2 := big_len n2 e2 (inz_pw b2).1 (inz_pw b2).2
  obtain ⟨A1, c1, rfl, _, _⟩ := DigV.open h1
  obtain ⟨A2, c2, rfl, _, _⟩ := DigV.open h2
  have D1 := Lib.hid h1
  have D2 := Lib.hid h2
  have N1 := Lib.hid n1
  have N2 := Lib.hid n2
  have E1 := Lib.hid e1
  have E2 := Lib.hid e2
  have B1 := Lib.hid b1
  have B2 := Lib.hid b2
  clear h1 h2 n1 n2 e1 e2 b1 b2
  obtain ⟨W, hW⟩ : ∃ W, ((w.alloc (Obj.cells #[.bool m1, .slice A1 L1.length c1] 73)).alloc (Obj.cells #[.bool m2, .slice A2 L2.length c2] 73)).alloc (Obj.cells #[.int .i64 0, .int .i64 0, .string noText] 27) = W := ⟨_, rfl⟩
  have hb3 : Below w.heap.size w W := by
    rw [← hW]
    exact (((Below.refl w.heap.size w).alloc (Nat.le_refl _) _).alloc (by simp) _).alloc (by simp; omega) _
  have bA : Blk W w.heap.size #[.bool m1, .slice A1 L1.length c1] 73 := by
    rw [← hW]
    exact ((Blk.new w _ _).alloc _).alloc _
  have bB : Blk W (w.heap.size + 1) #[.bool m2, .slice A2 L2.length c2] 73 := by
    rw [← hW]
    exact (Blk.atB (by simp)).alloc _
  have bR : Blk W (w.heap.size + 1 + 1) #[.int .i64 0, .int .i64 0, .string noText] 27 := by
    rw [← hW]
    exact Blk.atB (by simp)
  have HW := Lib.hid hW
  clear hW
  have y0 := bA.cell 0
  have y1 := bA.cell 1
  have y2 := bB.cell 0
  have y3 := bB.cell 1
  simp only [List.getElem?_toArray, List.getElem?_cons_zero, List.getElem?_cons_succ] at y0 y1 y2 y3
  go_enter Tryz.func51, Tryz.ntmps51
  go_upto_region 1 with fail
  rw [HW.out]
  go_wp2_with (first
    | (go_at_call 67; have hC := big_times m1 m2 _ _ L1 L2 W (D1.out.below hb3) (D2.out.below hb3) N1.out N2.out (by omega) _ _ E1.out E2.out; (with_reducible refine hC.mono ?_); clear hC; rintro e w4 ⟨m4, v4, L4, rfl, hd4, hn4, hz4, hb4⟩; obtain ⟨A4, c4, rfl, _, _⟩ := DigV.open hd4.1; have h4 : Below w.heap.size w w4 := hb3.trans (hb4.mono hb3.size); have bR4 := bR.below hb4; have l4 := big_len hn4 hz4 (inz_mul B1.out B2.out).1 (inz_mul B1.out B2.out).2)
    | (go_at_call 50; have hC := big_of unit w4 (by omega) (by omega); (with_reducible refine hC.mono ?_); clear hC; rintro e w5 ⟨m5, v5, L5, rfl, hd5, hn5, hz5, hb5⟩; obtain ⟨A5, c5, rfl, _, _⟩ := DigV.open hd5.1; have h5 : Below w.heap.size w w5 := h4.trans (hb5.mono h4.size); have bR5 := bR4.below hb5; have l5 := big_len hn5 hz5 (inz_pw (inz_unit u0 u1)).1 (inz_pw (inz_unit u0 u1)).2)
    | (go_at_call 70; have hC := over_f m4 m5 _ _ L4 L5 w5 (hd4.1.below hb5) hd5.1 hn4 hn5 (by omega) (by omega) _ _ hz4 hz5 (by omega); (with_reducible refine hC.mono ?_); clear hC; rintro e w6 ⟨rfl, hb6⟩; have h6 : Below w.heap.size w w6 := h5.trans (hb6.mono h5.size); have bR6 := bR5.below hb6)
    | (go_at_call 48; have hC := result_f kind ((z1 * z2).tdiv unit) w6; (with_reducible refine hC.mono ?_); clear hC; rintro e w7 ⟨rfl, hb7⟩; have h7 : Below w.heap.size w w7 := h6.trans (hb7.mono h6.size); have bR7 := bR6.below hb7; have r0 := bR7.cell 0; have r1 := bR7.cell 1; have r2 := bR7.cell 2; have f0 := bR7.frozen 0; have f1 := bR7.frozen 1; have f2 := bR7.frozen 2; simp only [List.getElem?_toArray, List.getElem?_cons_zero, List.getElem?_cons_succ] at r0 r1 r2))
  refine bodyPost_ret ?_ rfl ⟨rfl, ?_⟩
  · simp [results, Tryz.results51, go_sem, r0, r1, r2]
  · exact (((h7.setCell (by simp; try omega) _).setCell (by simp; try omega) _).setCell (by simp; try omega) _)

set_option maxRecDepth 100000 in
set_option maxHeartbeats 8000000 in
theorem two_none (kind unit z1 z2 : Int) (m1 m2 : Bool) (v1 v2 : Value) (L1 L2 : List Int) (w : World) (h1 : DigV w v1 L1) (h2 : DigV w v2 L2) (n1 : Norm L1) (n2 : Norm L2) (e1 : zOf m1 L1 = z1) (e2 : zOf m2 L2 = z2) (b1 : InZ z1) (b2 : InZ z2) (hz : z2 = 0) :
    Calls Tryz.prog 51 #[.int .i64 6, .int .i64 kind, .agg #[.bool m1, v1], .agg #[.bool m2, v2], .int .i64 unit] w (ResPost 0 0 4 w) := by
  have l1 := big_len n1 e1 (inz_pw b1).1 (inz_pw b1).2
  have l2 := big_len n2 e2 (inz_pw b2).1 (inz_pw b2).2
  obtain ⟨A1, c1, rfl, _, _⟩ := DigV.open h1
  obtain ⟨A2, c2, rfl, _, _⟩ := DigV.open h2
  have D1 := Lib.hid h1
  have D2 := Lib.hid h2
  have N1 := Lib.hid n1
  have N2 := Lib.hid n2
  have E1 := Lib.hid e1
  have E2 := Lib.hid e2
  have B1 := Lib.hid b1
  have B2 := Lib.hid b2
  have hL2 : L2.length = 0 := zOf_nil n2 (by rw [e2]; exact hz)
  have HL2 := Lib.hid hL2
  clear hL2
  clear h1 h2 n1 n2 e1 e2 b1 b2
  obtain ⟨W, hW⟩ : ∃ W, ((w.alloc (Obj.cells #[.bool m1, .slice A1 L1.length c1] 73)).alloc (Obj.cells #[.bool m2, .slice A2 L2.length c2] 73)).alloc (Obj.cells #[.int .i64 0, .int .i64 0, .string noText] 27) = W := ⟨_, rfl⟩
  have hb3 : Below w.heap.size w W := by
    rw [← hW]
    exact (((Below.refl w.heap.size w).alloc (Nat.le_refl _) _).alloc (by simp) _).alloc (by simp; omega) _
  have bA : Blk W w.heap.size #[.bool m1, .slice A1 L1.length c1] 73 := by
    rw [← hW]
    exact ((Blk.new w _ _).alloc _).alloc _
  have bB : Blk W (w.heap.size + 1) #[.bool m2, .slice A2 L2.length c2] 73 := by
    rw [← hW]
    exact (Blk.atB (by simp)).alloc _
  have bR : Blk W (w.heap.size + 1 + 1) #[.int .i64 0, .int .i64 0, .string noText] 27 := by
    rw [← hW]
    exact Blk.atB (by simp)
  have HW := Lib.hid hW
  clear hW
  have y0 := bA.cell 0
  have y1 := bA.cell 1
  have y2 := bB.cell 0
  have y3 := bB.cell 1
  simp only [List.getElem?_toArray, List.getElem?_cons_zero, List.getElem?_cons_succ] at y0 y1 y2 y3
  go_enter Tryz.func51, Tryz.ntmps51
  go_upto_region 1 with fail
  rw [HW.out]
  have hL2 := HL2.out
  have f0 := bR.frozen 0
  have f1 := bR.frozen 1
  have f2 := bR.frozen 2
  have r0 := bR.cell 0
  have r1 := bR.cell 1
  have r2 := bR.cell 2
  simp only [List.getElem?_toArray, List.getElem?_cons_zero, List.getElem?_cons_succ] at r0 r1 r2
  go_wp2_with fail
  refine bodyPost_ret (v := .tuple #[.agg #[.int .i64 0, .int .i64 0, .string noText], .int .i64 4]) ?_ rfl ⟨rfl, ?_⟩
  · simp [results, Tryz.results51, go_sem, r0, r1, r2]
  · exact (((hb3.setCell (by simp; try omega) _).setCell (by simp; try omega) _).setCell (by simp; try omega) _)

set_option maxRecDepth 100000 in
set_option maxHeartbeats 8000000 in
theorem two_div (kind unit z1 z2 : Int) (m1 m2 : Bool) (v1 v2 : Value) (L1 L2 : List Int) (w : World) (h1 : DigV w v1 L1) (h2 : DigV w v2 L2) (n1 : Norm L1) (n2 : Norm L2) (e1 : zOf m1 L1 = z1) (e2 : zOf m2 L2 = z2) (b1 : InZ z1) (b2 : InZ z2) (u0 : 0 < unit) (u1 : unit ≤ 10000) (hz : z2 ≠ 0) :
    Calls Tryz.prog 51 #[.int .i64 6, .int .i64 kind, .agg #[.bool m1, v1], .agg #[.bool m2, v2], .int .i64 unit] w (FitRes kind ((z1 * unit).tdiv z2) w) := by
  have l1 := big_len n1 e1 (inz_pw b1).1 (inz_pw b1).2
  have l2 := big_len n2 e2 (inz_pw b2).1 (inz_pw b2).2
  obtain ⟨A1, c1, rfl, _, _⟩ := DigV.open h1
  obtain ⟨A2, c2, rfl, _, _⟩ := DigV.open h2
  have D1 := Lib.hid h1
  have D2 := Lib.hid h2
  have N1 := Lib.hid n1
  have N2 := Lib.hid n2
  have E1 := Lib.hid e1
  have E2 := Lib.hid e2
  have B1 := Lib.hid b1
  have B2 := Lib.hid b2
  have hL2 : 0 < L2.length := zOf_some (by rw [e2]; exact hz)
  clear h1 h2 n1 n2 e1 e2 b1 b2
  obtain ⟨W, hW⟩ : ∃ W, ((w.alloc (Obj.cells #[.bool m1, .slice A1 L1.length c1] 73)).alloc (Obj.cells #[.bool m2, .slice A2 L2.length c2] 73)).alloc (Obj.cells #[.int .i64 0, .int .i64 0, .string noText] 27) = W := ⟨_, rfl⟩
  have hb3 : Below w.heap.size w W := by
    rw [← hW]
    exact (((Below.refl w.heap.size w).alloc (Nat.le_refl _) _).alloc (by simp) _).alloc (by simp; omega) _
  have bA : Blk W w.heap.size #[.bool m1, .slice A1 L1.length c1] 73 := by
    rw [← hW]
    exact ((Blk.new w _ _).alloc _).alloc _
  have bB : Blk W (w.heap.size + 1) #[.bool m2, .slice A2 L2.length c2] 73 := by
    rw [← hW]
    exact (Blk.atB (by simp)).alloc _
  have bR : Blk W (w.heap.size + 1 + 1) #[.int .i64 0, .int .i64 0, .string noText] 27 := by
    rw [← hW]
    exact Blk.atB (by simp)
  have HW := Lib.hid hW
  clear hW
  have y0 := bA.cell 0
  have y1 := bA.cell 1
  have y2 := bB.cell 0
  have y3 := bB.cell 1
  simp only [List.getElem?_toArray, List.getElem?_cons_zero, List.getElem?_cons_succ] at y0 y1 y2 y3
  go_enter Tryz.func51, Tryz.ntmps51
  go_upto_region 1 with fail
  rw [HW.out]
  go_wp2_with fail
  go_region_held3 (fun w' => w'.cell? ⟨w.heap.size, 0, none⟩ = some (.bool m1) ∧ w'.cell? ⟨w.heap.size, 1, none⟩ = some (.slice A1 L1.length c1) ∧ w'.cell? ⟨w.heap.size + 1, 0, none⟩ = some (.bool m2) ∧ w'.cell? ⟨w.heap.size + 1, 1, none⟩ = some (.slice A2 L2.length c2)) (first | exact ⟨y60, y61, y62, y63⟩ | exact ⟨y50, y51, y52, y53⟩ | exact ⟨y40, y41, y42, y43⟩ | exact ⟨y0, y1, y2, y3⟩) ((first
    | (go_at_call 50; have hC := big_of unit W.drew (by omega) (by omega); (with_reducible refine hC.mono ?_); clear hC; rintro e w4 ⟨m4, v4, L4, rfl, hd4, hn4, hz4, hb4⟩; obtain ⟨A4, c4, rfl, _, _⟩ := DigV.open hd4.1; have h4 : Below w.heap.size w w4 := hb3.drew.trans (hb4.mono hb3.drew.size); have bR4 := bR.drew.below hb4; have bA4 := bA.drew.below hb4; have bB4 := bB.drew.below hb4; have y40 := bA4.cell 0; have y41 := bA4.cell 1; have y42 := bB4.cell 0; have y43 := bB4.cell 1; simp only [List.getElem?_toArray, List.getElem?_cons_zero, List.getElem?_cons_succ] at y40 y41 y42 y43; have l4 := big_len hn4 hz4 (inz_pw (inz_unit u0 u1)).1 (inz_pw (inz_unit u0 u1)).2)
    | (go_at_call 67; have hC := big_times m1 m4 _ _ L1 L4 w4 (D1.out.below h4) hd4.1 N1.out hn4 (by omega) _ _ E1.out hz4; (with_reducible refine hC.mono ?_); clear hC; rintro e w5 ⟨m5, v5, L5, rfl, hd5, hn5, hz5, hb5⟩; obtain ⟨A5, c5, rfl, _, _⟩ := DigV.open hd5.1; have h5 : Below w.heap.size w w5 := h4.trans (hb5.mono h4.size); have bR5 := bR4.below hb5; have bA5 := bA4.below hb5; have bB5 := bB4.below hb5; have y50 := bA5.cell 0; have y51 := bA5.cell 1; have y52 := bB5.cell 0; have y53 := bB5.cell 1; simp only [List.getElem?_toArray, List.getElem?_cons_zero, List.getElem?_cons_succ] at y50 y51 y52 y53; have l5 := big_len hn5 hz5 (inz_mul B1.out (inz_unit u0 u1)).1 (inz_mul B1.out (inz_unit u0 u1)).2)
    | (go_at_call 70; have hC := over_f m5 m2 _ _ L5 L2 w5 hd5.1 (D2.out.below h5) hn5 N2.out (by omega) (by omega) _ _ hz5 E2.out hz; (with_reducible refine hC.mono ?_); clear hC; rintro e w6 ⟨rfl, hb6⟩; have h6 : Below w.heap.size w w6 := h5.trans (hb6.mono h5.size); have bR6 := bR5.below hb6; have bA6 := bA5.below hb6; have bB6 := bB5.below hb6; have y60 := bA6.cell 0; have y61 := bA6.cell 1; have y62 := bB6.cell 0; have y63 := bB6.cell 1; simp only [List.getElem?_toArray, List.getElem?_cons_zero, List.getElem?_cons_succ] at y60 y61 y62 y63)))
  go_step
  go_step
  go_wp2_with (go_at_call 48; have hC := result_f kind ((z1 * unit).tdiv z2) w6; (with_reducible refine hC.mono ?_); clear hC; rintro e w7 ⟨rfl, hb7⟩; have h7 : Below w.heap.size w w7 := h6.trans (hb7.mono h6.size); have bR7 := bR6.below hb7; have r0 := bR7.cell 0; have r1 := bR7.cell 1; have r2 := bR7.cell 2; have f0 := bR7.frozen 0; have f1 := bR7.frozen 1; have f2 := bR7.frozen 2; simp only [List.getElem?_toArray, List.getElem?_cons_zero, List.getElem?_cons_succ] at r0 r1 r2)
  refine bodyPost_ret ?_ rfl ⟨rfl, ?_⟩
  · simp [results, Tryz.results51, go_sem, r0, r1, r2]
  · exact (((h7.setCell (by simp; try omega) _).setCell (by simp; try omega) _).setCell (by simp; try omega) _)

end Go.Proofs.YtippffjhkinfoaaGreatDoor

namespace Go.Proofs.YtippffjhkinfoaaGreatDoor
open Go.RowKit

def encDat (d : Dat) : List Value := [.int .i64 d.k, .int .i64 d.i, .string d.s]
theorem hkDat (x : Dat) : (encDat x).length = 3 := rfl
/-- A slice value that holds the elements; an empty one without room may lie anywhere. -/
def ValW {α : Type} (enc : α → List Value) (k : Nat) (w : World) (v : Value) (L : List α) : Prop :=
  ((∃ A, v = .slice A 0 0) ∧ L = []) ∨ ∃ b off cap, v = .slice (some ⟨b, off, none⟩) L.length cap ∧ L.length ≤ maxLen ∧ b < w.heap.size ∧ AtG enc k w b off L ∧ L.length ≤ cap
theorem ValW.below {α : Type} {enc : α → List Value} {k : Nat} {w w' : World} {v : Value} {L : List α} (h : ValW enc k w v L) (hb : Below w.heap.size w w') : ValW enc k w' v L := by
  rcases h with h | ⟨b, off, cap, e, hm, hlt, hr⟩
  · exact .inl h
  · exact .inr ⟨b, off, cap, e, hm, Nat.lt_of_lt_of_le hlt hb.size, hr.1.block (hb.block b hlt), hr.2⟩
theorem ValG.weak {α : Type} {enc : α → List Value} {k : Nat} {w : World} {v : Value} {L : List α} (h : ValG enc k w v L) : ValW enc k w v L := by
  rcases h with ⟨h1, h2⟩ | h
  · exact .inl ⟨⟨none, h1⟩, h2⟩
  · exact .inr h
/-- A slice that holds the values. -/
abbrev DatV (w : World) (v : Value) (L : List Dat) : Prop := ValW encDat 3 w v L
abbrev datVal (d : Dat) : Value := .agg #[.int .i64 d.k, .int .i64 d.i, .string d.s]

theorem AtG.dat {w : World} {b off : Nat} {L : List Dat} (h : AtG encDat 3 w b off L) (n : Nat) (hn : n < L.length) :
    w.cell? ⟨b, off + n * 3, none⟩ = some (.int .i64 L[n].k) ∧ w.cell? ⟨b, off + n * 3 + 1, none⟩ = some (.int .i64 L[n].i) ∧ w.cell? ⟨b, off + n * 3 + 2, none⟩ = some (.string L[n].s) := by
  have e := List.getElem?_eq_getElem hn
  exact ⟨by simpa using h n _ e 0 _ rfl, h n _ e 1 _ rfl, h n _ e 2 _ rfl⟩

/-- One value. -/
theorem DatV.one {w : World} {v : Value} {a : Dat} (h : DatV w v [a]) : ∃ b off c, v = .slice (some ⟨b, off, none⟩) 1 c ∧ 1 ≤ c ∧ b < w.heap.size ∧
    w.cell? ⟨b, off, none⟩ = some (.int .i64 a.k) ∧ w.cell? ⟨b, off + 1, none⟩ = some (.int .i64 a.i) ∧ w.cell? ⟨b, off + 2, none⟩ = some (.string a.s) := by
  rcases h with ⟨_, h⟩ | ⟨b, off, c, rfl, _, hb, hat, hc⟩
  · cases h
  · obtain ⟨h0, h1, h2⟩ := hat.dat 0 (by simp)
    exact ⟨b, off, c, rfl, hc, hb, by simpa using h0, by simpa using h1, by simpa using h2⟩
/-- Two values. -/
theorem DatV.two {w : World} {v : Value} {a a' : Dat} (h : DatV w v [a, a']) : ∃ b off c, v = .slice (some ⟨b, off, none⟩) 2 c ∧ 2 ≤ c ∧ b < w.heap.size ∧
    (w.cell? ⟨b, off, none⟩ = some (.int .i64 a.k) ∧ w.cell? ⟨b, off + 1, none⟩ = some (.int .i64 a.i) ∧ w.cell? ⟨b, off + 2, none⟩ = some (.string a.s)) ∧
    w.cell? ⟨b, off + 3, none⟩ = some (.int .i64 a'.k) ∧ w.cell? ⟨b, off + 3 + 1, none⟩ = some (.int .i64 a'.i) ∧ w.cell? ⟨b, off + 3 + 2, none⟩ = some (.string a'.s) := by
  rcases h with ⟨_, h⟩ | ⟨b, off, c, rfl, _, hb, hat, hc⟩
  · cases h
  · obtain ⟨h0, h1, h2⟩ := hat.dat 0 (by simp)
    obtain ⟨h3, h4, h5⟩ := hat.dat 1 (by simp)
    exact ⟨b, off, c, rfl, hc, hb, ⟨by simpa using h0, by simpa using h1, by simpa using h2⟩, by simpa using h3, by simpa using h4, by simpa using h5⟩
theorem DatV.len {w : World} {v : Value} {L : List Dat} (h : DatV w v L) : ∃ A c, v = .slice A L.length c ∧ L.length ≤ c ∧ L.length ≤ maxLen := by
  rcases h with ⟨⟨A, rfl⟩, rfl⟩ | ⟨b, off, c, rfl, hm, _, _, hc⟩
  · exact ⟨A, 0, rfl, Nat.le_refl _, by simp⟩
  · exact ⟨_, c, rfl, hc, hm⟩

/-- Bool. -/
theorem refBool_any (x : Bool) (w : World) :
    Calls Tryz.prog 11 #[.bool x] w fun e w' => e = .returned (.agg #[.int .i64 1, .int .i64 (bitOf x), .string noText]) ∧ Below w.heap.size w w' := by
  cases x
  · go_enter Tryz.func11, Tryz.ntmps11
    go_wp2
    exact bodyPost_ret (v := .agg #[.int .i64 1, .int .i64 0, .string noText]) (by simp [results, Tryz.results11, go_sem]) rfl ⟨rfl, (Below.refl _ _).alloc (Nat.le_refl _) _⟩
  · go_enter Tryz.func11, Tryz.ntmps11
    go_wp2
    exact bodyPost_ret (v := .agg #[.int .i64 1, .int .i64 1, .string noText]) (by simp [results, Tryz.results11, go_sem]) rfl ⟨rfl, (Below.refl _ _).alloc (Nat.le_refl _) _⟩

/-- Many. -/
theorem many_any (op : Int) (w : World) : Calls Tryz.prog 21 #[.int .i64 op] w fun e w' => e = .returned (.int .i64 (arityR op)) ∧ w' = w := by
  by_cases h1 : 3 ≤ op ∧ op ≤ 14
  · have HR : Hid (arityR op = 2) := by unfold Hid arityR; rw [if_neg (by omega), if_pos h1]
    obtain ⟨g1, g2⟩ := h1
    go_enter Tryz.func21, Tryz.ntmps21
    go_wp2
    go_ret
    exact ⟨by rw [HR.out]; rfl, rfl⟩
  · by_cases h2 : op = 1 ∨ op = 2 ∨ op = 15 ∨ op = 18 ∨ op = 19 ∨ op = 20
    · have HR : Hid (arityR op = 1) := by unfold Hid arityR; rw [if_pos h2]
      clear h1
      rcases h2 with rfl | rfl | rfl | rfl | rfl | rfl
      all_goals
        go_enter Tryz.func21, Tryz.ntmps21
        go_wp2
        go_ret
        exact ⟨by rw [HR.out]; rfl, rfl⟩
    · have HR : Hid (arityR op = 0) := by unfold Hid arityR; rw [if_neg h2, if_neg h1]
      have e1 : (op == 1) = false := by simp; omega
      have e2 : (op == 2) = false := by simp; omega
      have e15 : (op == 15) = false := by simp; omega
      by_cases g1 : op < 3
      · clear h1 h2
        go_enter Tryz.func21, Tryz.ntmps21
        go_wp2
        go_ret
        exact ⟨by rw [HR.out]; rfl, rfl⟩
      · have g2 : 14 < op := by omega
        by_cases g3 : op < 18
        · clear h1 h2
          go_enter Tryz.func21, Tryz.ntmps21
          go_wp2
          go_ret
          exact ⟨by rw [HR.out]; rfl, rfl⟩
        · have g4 : 20 < op := by omega
          clear h1 h2
          go_enter Tryz.func21, Tryz.ntmps21
          go_wp2
          go_ret
          exact ⟨by rw [HR.out]; rfl, rfl⟩

/-- Is a value NULL, or of the kinds from f to t? -/
def okEl (f t : Int) (d : Dat) : Bool := decide (d.k = 0 ∨ (f ≤ d.k ∧ d.k ≤ t))
def onlyR (f t : Int) (L : List Dat) : Bool := L.all (okEl f t)

theorem all_take {p : Dat → Bool} {L : List Dat} {n : Nat} (hn : n < L.length) (h : (L.take n).all p = true) (hp : p L[n] = true) : (L.take (n + 1)).all p = true := by
  rw [List.take_add_one, List.all_append, h, List.getElem?_eq_getElem hn]
  simpa using hp
theorem all_not {p : Dat → Bool} {L : List Dat} {n : Nat} (hn : n < L.length) (hp : p L[n] = false) : L.all p = false := by
  rw [List.all_eq_false]
  exact ⟨_, List.getElem_mem hn, by simp [hp]⟩

set_option maxHeartbeats 4000000 in
set_option maxRecDepth 100000 in
theorem only_any (f t : Int) (L : List Dat) (v : Value) (w : World) (hv : DatV w v L) :
    Calls Tryz.prog 25 #[v, .int .i64 f, .int .i64 t] w fun e w' => e = .returned (.bool (onlyR f t L)) ∧ Below w.heap.size w w' := by
  obtain ⟨A, c, rfl, hc, hm⟩ := hv.len
  have HV := Lib.hid hv
  clear hv
  go_enter Tryz.func25, Tryz.ntmps25
  go_wp2_with fail
  go_loopw [11] (fun i wr => ∃ n : Nat, i = .int .i64 n ∧ n ≤ L.length ∧ Hid ((L.take n).all (okEl f t) = true) ∧ Below w.heap.size w wr) (fun i _ => L.length - (intOf i).toNat)
  case atStart => exact ⟨0, rfl, Nat.zero_le _, rfl, Below.refl _ _⟩
  case round =>
    obtain ⟨n, rfl, hn, HA, hb⟩ := hrel
    by_cases hlt : n < L.length
    · rcases HV.out with ⟨_, h0⟩ | ⟨b, off, c', e, _, hbl, hat, _⟩
      · rw [h0] at hlt; simp at hlt
      · injection e with e1 e2 e3
        subst e1 e3
        obtain ⟨h0, h1, h2⟩ := (hat.block (hb.block b hbl)).dat n hlt
        clear hat hbl hn
        have HP : Hid (okEl f t L[n] = true → (L.take (n + 1)).all (okEl f t) = true) := fun hp => all_take hlt HA.out hp
        have HNP : Hid (okEl f t L[n] = false → onlyR f t L = false) := fun hp => all_not hlt hp
        revert HP HNP h0 h1 h2
        generalize L[n] = d
        obtain ⟨dk, di, ds⟩ := d
        intro h0 h1 h2 HP HNP
        simp only at h0 h1 h2
        have hz := hb.size
        have hend := fun (o : Obj) => hb.alloc hz o
        unfold maxLen at hm
        have hn1 : (n : Int) + 1 ≤ 9223372036854775807 := by omega
        by_cases k0 : dk = 0
        · have hq := Lib.hid (HP.out (decide_eq_true (.inl k0)))
          have k0' : (dk != 0) = false := by simp [k0]
          clear k0 HP HNP HA
          go_wp2_with fail
          refine ⟨⟨n + 1, by go_num, hlt, hq, hend _⟩, ?_⟩
          simp [intOf]
          go_num
        · have k0' : (dk != 0) = true := by simp [k0]
          by_cases k1 : dk < f
          · have hq := Lib.hid (HNP.out (decide_eq_false (by show ¬ (dk = 0 ∨ (f ≤ dk ∧ dk ≤ t)); omega)))
            clear k0 HP HNP HA
            go_wp2_with fail
            go_ret
            exact ⟨by rw [hq.out]; rfl, hend _⟩
          · have k1' : decide (dk < f) = false := decide_eq_false k1
            by_cases k2 : t < dk
            · have hq := Lib.hid (HNP.out (decide_eq_false (by show ¬ (dk = 0 ∨ (f ≤ dk ∧ dk ≤ t)); omega)))
              clear k0 HP HNP HA
              go_wp2_with fail
              go_ret
              exact ⟨by rw [hq.out]; rfl, hend _⟩
            · have hq := Lib.hid (HP.out (decide_eq_true (by show (dk = 0 ∨ (f ≤ dk ∧ dk ≤ t)); omega)))
              have k2' : decide (t < dk) = false := decide_eq_false k2
              clear k0 HP HNP HA
              go_wp2_with fail
              refine ⟨⟨n + 1, by go_num, hlt, hq, hend _⟩, ?_⟩
              simp [intOf]
              go_num
    · have hq : Hid (onlyR f t L = true) := by
        have := HA.out
        rw [List.take_of_length_le (by omega)] at this
        exact this
      clear HA
      go_wp2_with fail
      go_ret
      exact ⟨by rw [hq.out]; rfl, hb⟩

/-- Is a value among these? -/
def hasR (d : Dat) (L : List Dat) : Bool := L.any (fun x => decide (x.k = d.k ∧ x.i = d.i ∧ x.s = d.s))

theorem any_take {p : Dat → Bool} {L : List Dat} {n : Nat} (hn : n < L.length) (h : (L.take n).any p = false) (hp : p L[n] = false) : (L.take (n + 1)).any p = false := by
  rw [List.take_add_one, List.any_append, h, List.getElem?_eq_getElem hn]
  simpa using hp
theorem any_yes {p : Dat → Bool} {L : List Dat} {n : Nat} (hn : n < L.length) (hp : p L[n] = true) : L.any p = true := by
  rw [List.any_eq_true]
  exact ⟨_, List.getElem_mem hn, hp⟩

set_option maxHeartbeats 4000000 in
set_option maxRecDepth 100000 in
theorem has_any (d : Dat) (L : List Dat) (v : Value) (w : World) (hv : DatV w v L) :
    Calls Tryz.prog 43 #[v, datVal d] w fun e w' => e = .returned (.bool (hasR d L)) ∧ Below w.heap.size w w' := by
  obtain ⟨A, c, rfl, hc, hm⟩ := hv.len
  have HV := Lib.hid hv
  clear hv
  obtain ⟨ek, ei, es⟩ := d
  have hb0 := (Below.refl w.heap.size w).alloc (Nat.le_refl _) (.cells #[.int .i64 ek, .int .i64 ei, .string es] 27)
  have bD := Blk.new w #[.int .i64 ek, .int .i64 ei, .string es] 27
  go_enter Tryz.func43, Tryz.ntmps43
  go_wp2_with fail
  go_loopw [9] (fun i wr => ∃ n : Nat, i = .int .i64 n ∧ n ≤ L.length ∧ Hid ((L.take n).any (fun x => decide (x.k = ek ∧ x.i = ei ∧ x.s = es)) = false) ∧ Below w.heap.size w wr ∧ Blk wr w.heap.size #[.int .i64 ek, .int .i64 ei, .string es] 27) (fun i _ => L.length - (intOf i).toNat)
  case atStart => exact ⟨0, rfl, Nat.zero_le _, rfl, hb0, bD⟩
  case round =>
    clear hb0 bD
    obtain ⟨n, rfl, hn, HA, hb, bD⟩ := hrel
    have x0 := bD.cell 0
    have x1 := bD.cell 1
    have x2 := bD.cell 2
    simp only [List.getElem?_toArray, List.getElem?_cons_zero, List.getElem?_cons_succ] at x0 x1 x2
    by_cases hlt : n < L.length
    · rcases HV.out with ⟨_, h0⟩ | ⟨b, off, c', e, _, hbl, hat, _⟩
      · rw [h0] at hlt; simp at hlt
      · injection e with e1 e2 e3
        subst e1 e3
        obtain ⟨h0, h1, h2⟩ := (hat.block (hb.block b hbl)).dat n hlt
        clear hat hbl hn
        have HP : Hid (decide (L[n].k = ek ∧ L[n].i = ei ∧ L[n].s = es) = false → (L.take (n + 1)).any (fun x => decide (x.k = ek ∧ x.i = ei ∧ x.s = es)) = false) := fun hp => any_take hlt HA.out hp
        have HNP : Hid (decide (L[n].k = ek ∧ L[n].i = ei ∧ L[n].s = es) = true → hasR ⟨ek, ei, es⟩ L = true) := fun hp => any_yes hlt hp
        revert HP HNP h0 h1 h2
        generalize L[n] = d
        obtain ⟨dk, di, ds⟩ := d
        intro h0 h1 h2 HP HNP
        simp only at h0 h1 h2 HP HNP
        have hz := hb.size
        have hend := fun (o : Obj) => hb.alloc hz o
        have bDo := fun (o : Obj) => bD.alloc o
        unfold maxLen at hm
        have hn1 : (n : Int) + 1 ≤ 9223372036854775807 := by omega
        have x0o := fun (o : Obj) => (bD.alloc o).cell 0
        have x1o := fun (o : Obj) => (bD.alloc o).cell 1
        have x2o := fun (o : Obj) => (bD.alloc o).cell 2
        simp only [List.getElem?_toArray, List.getElem?_cons_zero, List.getElem?_cons_succ] at x0o x1o x2o
        have hE := fun w => run_eq_datum dk di ds ek ei es w
        clear HA
        by_cases hq : dk = ek ∧ di = ei ∧ ds = es
        · have hd := decide_eq_true hq
          have HR := Lib.hid (HNP.out hd)
          simp only [hd] at hE
          clear HP HNP hd hq
          go_wp2_with fail
          go_ret
          exact ⟨by rw [HR.out]; rfl, hend _⟩
        · have hd := decide_eq_false hq
          have HR := Lib.hid (HP.out hd)
          simp only [hd] at hE
          clear HP HNP hd hq
          go_wp2_with fail
          refine ⟨⟨n + 1, by go_num, hlt, HR, hend _, bDo _⟩, ?_⟩
          simp [intOf]
          go_num
    · have hq : Hid (hasR ⟨ek, ei, es⟩ L = false) := by
        have := HA.out
        rw [List.take_of_length_le (by omega)] at this
        exact this
      clear HA
      go_wp2_with fail
      go_ret
      exact ⟨by rw [hq.out]; rfl, hb⟩

theorem ord_neg (a b : Int) : ordI (-a) (-b) = - ordI a b := by unfold ordI; split <;> split <;> (try split) <;> omega

set_option maxHeartbeats 4000000 in
set_option maxRecDepth 100000 in
/-- Order: of two whole numbers. -/
theorem order_f (m1 m2 : Bool) (v1 v2 : Value) (L1 L2 : List Int) (w : World) (h1 : DigV w v1 L1) (h2 : DigV w v2 L2) (n1 : Norm L1) (n2 : Norm L2) (l1 : L1.length ≤ 5000) (s1 : m1 = true → 0 < L1.length) (s2 : m2 = true → 0 < L2.length) (z1 z2 : Int) (e1 : zOf m1 L1 = z1) (e2 : zOf m2 L2 = z2) :
    Calls Tryz.prog 45 #[.agg #[.bool m1, v1], .agg #[.bool m2, v2]] w (IntPost (ordI z1 z2) w) := by
  have HA := Lib.hid (fun w' (hb : Below w.heap.size w w') => amounts_any m1 m2 v1 v2 L1 L2 w' (h1.below hb) (h2.below hb) n1 n2 l1)
  have p1 := (valD_bound n1.1).1
  have p2 := (valD_bound n2.1).1
  have g1 : m1 = true → 0 < valD L1 := fun h => by
    have := n1.low 0 (s1 h)
    have e : pw 0 = 1 := rfl
    omega
  have g2 : m2 = true → 0 < valD L2 := fun h => by
    have := n2.low 0 (s2 h)
    have e : pw 0 = 1 := rfl
    omega
  obtain ⟨A1, c1, rfl, _, _⟩ := DigV.open h1
  obtain ⟨A2, c2, rfl, _, _⟩ := DigV.open h2
  have hb2 := ((Below.refl w.heap.size w).alloc (Nat.le_refl _) (Obj.cells #[.bool m1, .slice A1 L1.length c1] 73)).alloc (by simp) (Obj.cells #[.bool m2, .slice A2 L2.length c2] 73)
  have bA := (Blk.new w #[.bool m1, .slice A1 L1.length c1] 73).alloc (Obj.cells #[.bool m2, .slice A2 L2.length c2] 73)
  have hr : ∀ a b : Int, -1 ≤ ordI a b ∧ ordI a b ≤ 1 := fun a b => by
    have := ordI_cases a b
    omega
  have hr' := hr (valD L1) (valD L2)
  cases m1 <;> cases m2
  · have HR : Hid (ordI z1 z2 = ordI (valD L1) (valD L2)) := by unfold Hid; rw [← e1, ← e2]; rfl
    clear e1 e2 h1 h2 n1 n2 g1 g2 s1 s2
    go_enter Tryz.func45, Tryz.ntmps45
    go_wp2_with (go_at_call 66; have hC := HA.out _ hb2; (with_reducible refine hC.mono ?_); clear hC; rintro e w5 ⟨rfl, hb5⟩; have b5 := bA.below hb5; have x0 := b5.cell 0; simp only [List.getElem?_toArray, List.getElem?_cons_zero] at x0)
    go_ret
    exact ⟨by rw [HR.out]; rfl, hb2.trans (hb5.mono hb2.size)⟩
  · have HR : Hid (ordI z1 z2 = 1) := by
      have q := g2 rfl
      have e2' : -valD L2 = z2 := e2
      have e1' : valD L1 = z1 := e1
      unfold Hid ordI; rw [if_neg (by omega), if_pos (by omega)]
    clear e1 e2 h1 h2 n1 n2 g1 g2 s1 s2
    go_enter Tryz.func45, Tryz.ntmps45
    go_wp2_with fail
    go_ret
    exact ⟨by rw [HR.out]; rfl, hb2⟩
  · have HR : Hid (ordI z1 z2 = -1) := by
      have q := g1 rfl
      have e2' : valD L2 = z2 := e2
      have e1' : -valD L1 = z1 := e1
      unfold Hid ordI; rw [if_pos (by omega)]
    clear e1 e2 h1 h2 n1 n2 g1 g2 s1 s2
    go_enter Tryz.func45, Tryz.ntmps45
    go_wp2_with fail
    go_ret
    exact ⟨by rw [HR.out]; rfl, hb2⟩
  · have HR : Hid (ordI z1 z2 = - ordI (valD L1) (valD L2)) := by
      unfold Hid
      rw [← e1, ← e2]
      show ordI (-valD L1) (-valD L2) = _
      rw [ord_neg]
    clear e1 e2 h1 h2 n1 n2 g1 g2 s1 s2
    go_enter Tryz.func45, Tryz.ntmps45
    go_wp2_with (go_at_call 66; have hC := HA.out _ hb2; (with_reducible refine hC.mono ?_); clear hC; rintro e w5 ⟨rfl, hb5⟩; have b5 := bA.below hb5; have x0 := b5.cell 0; simp only [List.getElem?_toArray, List.getElem?_cons_zero] at x0)
    go_ret
    refine ⟨?_, hb2.trans (hb5.mono hb2.size)⟩
    rw [HR.out]; rfl

end Go.Proofs.YtippffjhkinfoaaGreatDoor

namespace Go.Proofs.YtippffjhkinfoaaGreatDoor
open Go.RowKit

abbrev Tri := Int × Int × Int
/-- A value without a text and an error come back; memory of its own alone is made. -/
def ResT (t : Tri) (w : World) : Ending → World → Prop := ResPost t.1 t.2.1 t.2.2 w
def fitT (kind z : Int) : Tri := (fitK kind z, fitI z, fitE z)

def lenR (d : Dat) : Tri := if d.k = 0 then (0, 0, 0) else if d.k < 4 then (0, 0, 5) else if d.k = 4 then (2, (runeC d.s 0 : Int), 0) else (2, (d.s.size : Int), 0)
def cmpZ (a b : Dat) : Int := ordI (numZ a.k a.i) (numZ b.k b.i)
def relR (op : Int) (a b : Dat) : Tri :=
  if a.k = 0 ∨ b.k = 0 then (0, 0, 0) else if numB a.k && numB b.k then (1, bitOf (holdsB op (cmpZ a b)), 0) else if a.k ≠ b.k then (0, 0, 5) else (1, bitOf (holdsB op (cmpD a b)), 0)
def twoR (op kind unit z1 z2 : Int) : Tri :=
  if op = 3 then fitT kind (z1 + z2) else if op = 4 then fitT kind (z1 + -z2) else if op = 5 then fitT kind ((z1 * z2).tdiv unit) else if z2 = 0 then (0, 0, 4) else fitT kind ((z1 * unit).tdiv z2)
def binR (op : Int) (a b : Dat) : Tri :=
  if onlyR 2 3 [a, b] = false then (0, 0, 5) else if a.k = 0 ∨ b.k = 0 then (0, 0, 0) else if a.k = 2 ∧ b.k = 2 then twoR op 2 1 a.i b.i
  else if (fitsB (numZ a.k a.i) && fitsB (numZ b.k b.i)) = false then (0, 0, 4) else twoR op 3 10000 (numZ a.k a.i) (numZ b.k b.i)
def unR (op : Int) (a : Dat) : Tri :=
  if okEl 2 3 a = false then (0, 0, 5) else if a.k = 0 then (0, 0, 0) else if op = 20 then fitT 3 (numZ a.k a.i) else if op = 1 ∨ a.i < 0 then fitT a.k (-a.i) else (a.k, a.i, 0)
def oneR (op : Int) (a : Dat) : Tri := if op = 15 then (1, bitOf (a.k == 0), 0) else if op = 2 then notR a.k a.i else if op = 18 then lenR a else unR op a
def bothR (op : Int) (a b : Dat) : Tri := if op = 13 then joinR a.k a.i b.k b.i 0 else if op = 14 then joinR a.k a.i b.k b.i 1 else if 7 ≤ op ∧ op ≤ 12 then relR op a b else binR op a b
/-- Apply. -/
def appR (op : Int) (L : List Dat) : Tri :=
  if arityR op = 0 ∨ (L.length : Int) ≠ arityR op ∨ L.all rightD = false then (0, 0, 1) else match L with
  | [a] => oneR op a
  | [a, b] => bothR op a b
  | _ => (0, 0, 1)

def nullD : Dat := ⟨0, 0, noText⟩
def boolD (i : Int) : Dat := ⟨1, i, noText⟩

theorem size_none {s : ByteArray} (h : s.size = 0) : s = noText := ba_empty' h rfl
theorem right_null {d : Dat} (h : rightD d = true) (hk : d.k = 0) : d = nullD := by
  obtain ⟨k, i, s⟩ := d
  obtain ⟨h1, h2⟩ := rightD_null _ h hk
  simp only at hk h1 h2
  rw [hk, h1, size_none h2]; rfl
theorem right_bool {d : Dat} (h : rightD d = true) (hk : d.k = 1) : d = boolD 0 ∨ d = boolD 1 := by
  obtain ⟨k, i, s⟩ := d
  obtain ⟨h1, h2⟩ := rightD_bool _ h hk
  simp only at hk h1 h2
  rw [hk, size_none h2]
  rcases h1 with h1 | h1 <;> rw [h1]
  · exact .inl rfl
  · exact .inr rfl
theorem right_num {d : Dat} (h : rightD d = true) (hk : d.k = 2 ∨ d.k = 3) : d.s = noText := size_none (rightD_num d h hk)

theorem has_null1 {a : Dat} (ha : rightD a = true) : hasR nullD [a] = decide (a.k = 0) := by
  unfold hasR
  simp only [List.any_cons, List.any_nil, Bool.or_false]
  by_cases hk : a.k = 0
  · rw [right_null ha hk]; rfl
  · rw [decide_eq_false hk, decide_eq_false (fun h => hk h.1)]
theorem has_null2 {a b : Dat} (ha : rightD a = true) (hb : rightD b = true) : hasR nullD [a, b] = decide (a.k = 0 ∨ b.k = 0) := by
  have h1 := has_null1 ha
  have h2 := has_null1 hb
  unfold hasR at *
  simp only [List.any_cons, List.any_nil, Bool.or_false] at *
  rw [h1, h2, Bool.eq_iff_iff]
  simp

/-- AND and OR, by what only and has tell. -/
theorem join_eq {a b : Dat} (ha : rightD a = true) (hb : rightD b = true) (st : Int) (hs : st = 0 ∨ st = 1) :
    joinR a.k a.i b.k b.i st = if onlyR 1 1 [a, b] = false then (0, 0, 5) else if hasR (boolD st) [a, b] = true then (1, bitOf (st == 1), 0) else if hasR nullD [a, b] = true then (0, 0, 0) else (1, bitOf (st == 0), 0) := by
  have key : ∀ d : Dat, rightD d = true → d.k = 0 ∨ d.k = 1 → d = nullD ∨ d = boolD 0 ∨ d = boolD 1 := fun d hd hk => by
    rcases hk with hk | hk
    · exact .inl (right_null hd hk)
    · exact .inr (right_bool hd hk)
  by_cases h1 : a.k = 0 ∨ a.k = 1
  · by_cases h2 : b.k = 0 ∨ b.k = 1
    · rcases key a ha h1 with rfl | rfl | rfl <;> rcases key b hb h2 with rfl | rfl | rfl <;> rcases hs with rfl | rfl <;> decide
    · have e : onlyR 1 1 [a, b] = false := by
        unfold onlyR okEl
        simp only [List.all_cons, List.all_nil, Bool.and_true]
        rw [Bool.and_eq_false_iff]
        right
        simp; omega
      rw [if_pos e]
      unfold joinR
      split
      · rfl
      · rw [if_pos (by simp; omega)]
  · have e : onlyR 1 1 [a, b] = false := by
      unfold onlyR okEl
      simp only [List.all_cons, List.all_nil, Bool.and_true]
      rw [Bool.and_eq_false_iff]
      left
      simp; omega
    rw [if_pos e]
    unfold joinR
    rw [if_pos (by simp; omega)]
theorem not_eq (a : Dat) : notR a.k a.i = if onlyR 1 1 [a] = false then (0, 0, 5) else if a.k = 0 then (0, 0, 0) else (1, bitOf (a.i == 0), 0) := by
  unfold notR onlyR okEl
  simp only [List.all_cons, List.all_nil, Bool.and_true, decide_eq_false_iff_not, beq_iff_eq]
  by_cases h0 : a.k = 0
  · rw [if_pos h0, if_neg (by omega), if_pos h0]
  · by_cases h1 : a.k = 1
    · rw [if_neg h0, if_pos h1, if_neg (by omega), if_neg h0]
    · rw [if_neg h0, if_neg h1, if_pos (by omega)]

end Go.Proofs.YtippffjhkinfoaaGreatDoor
