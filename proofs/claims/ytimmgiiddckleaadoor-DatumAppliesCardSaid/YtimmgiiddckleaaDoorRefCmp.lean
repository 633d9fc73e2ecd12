/-
  The contract of the reference's Compare of two values.
-/
import Derived.Test.YtimmgiiddckleaaDoorRel
import Derived.Test.YtimmgiiddckleaaDoorRowPure
namespace Go.Proofs.YtimmgiiddckleaaDoor
open Go.RowKit

theorem bytesLess_cb : ∀ a b : List UInt8, Op.bytesLess a b = decide (Lib.compareBytes a b = -1)
  | [], [] => by simp [Op.bytesLess, Lib.compareBytes]
  | [], _ :: _ => by simp [Op.bytesLess, Lib.compareBytes]
  | _ :: _, [] => by simp [Op.bytesLess, Lib.compareBytes]
  | a :: x, b :: y => by
    have ih := bytesLess_cb x y
    rcases u8_tri a b with h | h | h
    · rw [cb_lt a b x y h]; simp [Op.bytesLess, h]
    · subst h; rw [cb_cons]; simp [Op.bytesLess, ih]
    · rw [cb_gt a b x y h]
      have h1 := u8_asymm h
      have h2 : ¬ a = b := by rintro rfl; exact u8_lt_irrefl a h
      simp [Op.bytesLess, h1, h2]

theorem toList_iff (s1 s2 : ByteArray) : s1.toList = s2.toList ↔ s1 = s2 := by
  constructor
  · intro h
    rw [ByteArray.toList_eq, ByteArray.toList_eq] at h
    exact ba_eq h
  · intro h; rw [h]

theorem run_eq_datum (k1 i1 : Int) (s1 : ByteArray) (k2 i2 : Int) (s2 : ByteArray) (w : World) :
    (binOp .eql 24 (.agg #[.int .i64 k1, .int .i64 i1, .string s1]) (.agg #[.int .i64 k2, .int .i64 i2, .string s2])).run Tryd.prog w = .ok (.bool (decide (k1 = k2 ∧ i1 = i2 ∧ s1 = s2))) w := by
  go_simp
  simp only [toList_iff]
  by_cases h1 : k1 = k2
  · by_cases h2 : i1 = i2
    · by_cases h3 : s1 = s2
      · simp [h1, h2, h3]
      · simp [h1, h2, h3]
    · simp [h1, h2]
  · simp [h1]

set_option maxRecDepth 100000 in
set_option maxHeartbeats 4000000 in
theorem refCmp_any (k1 i1 : Int) (s1 : ByteArray) (k2 i2 : Int) (s2 : ByteArray) (w : World) :
    Calls Tryd.prog 52 #[.agg #[.int .i64 k1, .int .i64 i1, .string s1], .agg #[.int .i64 k2, .int .i64 i2, .string s2]] w (IntPost (cmpD ⟨k1, i1, s1⟩ ⟨k2, i2, s2⟩) w) := by
  have hE := fun w => run_eq_datum k1 i1 s1 k2 i2 s2 w
  have hcmp : cmpD ⟨k1, i1, s1⟩ ⟨k2, i2, s2⟩ = ordD k1 i1 s1 k2 i2 s2 := rfl
  have hbel : Below w.heap.size w ((w.alloc (.cells #[.int .i64 k1, .int .i64 i1, .string s1] 24)).alloc (.cells #[.int .i64 k2, .int .i64 i2, .string s2] 24)) := ((Below.refl _ _).alloc (Nat.le_refl _) _).alloc (by simp) _
  have HB := Lib.hid hbel
  clear hbel
  by_cases hk : k1 = k2
  · by_cases hi : i1 = i2
    · have hr : cmpD ⟨k1, i1, s1⟩ ⟨k2, i2, s2⟩ = Lib.compareBytes s1.data.toList s2.data.toList := by rw [hcmp]; unfold ordD; rw [if_pos hk, if_pos hi]
      have hl := bytesLess_cb s1.toList s2.toList
      rw [ByteArray.toList_eq, ByteArray.toList_eq] at hl
      have hrange := cb_range s1.data.toList s2.data.toList
      subst hk hi
      by_cases hs : s1 = s2
      · have HR : Hid (cmpD ⟨k1, i1, s1⟩ ⟨k1, i1, s2⟩ = 0) := by unfold Hid; rw [hr, hs]; exact cb_self _
        have hls : Op.bytesLess s1.toList s2.toList = false := by rw [ByteArray.toList_eq, ByteArray.toList_eq, hl, hs, cb_self]; rfl
        subst hs
        clear hr hl hrange hcmp
        simp only [and_self, decide_true] at hE
        go_enter Tryd.func52, Tryd.ntmps52
        go_wp2
        go_ret
        exact ⟨by rw [HR.out]; rfl, HB.out⟩
      · have hE' : ∀ w, (binOp .eql 24 (.agg #[.int .i64 k1, .int .i64 i1, .string s1]) (.agg #[.int .i64 k1, .int .i64 i1, .string s2])).run Tryd.prog w = .ok (.bool false) w := fun w => by rw [hE w]; simp [hs]
        have hne : Lib.compareBytes s1.data.toList s2.data.toList ≠ 0 := fun e => hs (ba_eq (cb_eq _ _ e))
        by_cases hlt : Lib.compareBytes s1.data.toList s2.data.toList = -1
        · have HR : Hid (cmpD ⟨k1, i1, s1⟩ ⟨k1, i1, s2⟩ = -1) := by unfold Hid; rw [hr, hlt]
          have hls : Op.bytesLess s1.toList s2.toList = true := by rw [ByteArray.toList_eq, ByteArray.toList_eq, hl, hlt]; rfl
          clear hr hl hrange hcmp hE hs hne hlt
          go_enter Tryd.func52, Tryd.ntmps52
          go_wp2
          go_ret
          exact ⟨by rw [HR.out]; rfl, HB.out⟩
        · have h1 : Lib.compareBytes s1.data.toList s2.data.toList = 1 := by omega
          have HR : Hid (cmpD ⟨k1, i1, s1⟩ ⟨k1, i1, s2⟩ = 1) := by unfold Hid; rw [hr, h1]
          have hls : Op.bytesLess s1.toList s2.toList = false := by rw [ByteArray.toList_eq, ByteArray.toList_eq, hl, h1]; rfl
          clear hr hl hrange hcmp hE hs hne hlt h1
          go_enter Tryd.func52, Tryd.ntmps52
          go_wp2
          go_ret
          exact ⟨by rw [HR.out]; rfl, HB.out⟩
    · have hr : cmpD ⟨k1, i1, s1⟩ ⟨k2, i2, s2⟩ = ordI i1 i2 := by rw [hcmp]; unfold ordD; rw [if_pos hk, if_neg hi]
      subst hk
      have hE' : ∀ w, (binOp .eql 24 (.agg #[.int .i64 k1, .int .i64 i1, .string s1]) (.agg #[.int .i64 k1, .int .i64 i2, .string s2])).run Tryd.prog w = .ok (.bool false) w := fun w => by rw [hE w]; simp [hi]
      have hb : (i1 == i2) = false := by simpa using hi
      by_cases hlt : i1 < i2
      · have HR : Hid (cmpD ⟨k1, i1, s1⟩ ⟨k1, i2, s2⟩ = -1) := by unfold Hid; rw [hr]; unfold ordI; rw [if_pos hlt]
        clear hr hcmp hE hi
        go_enter Tryd.func52, Tryd.ntmps52
        go_wp2
        go_ret
        exact ⟨by rw [HR.out]; rfl, HB.out⟩
      · have HR : Hid (cmpD ⟨k1, i1, s1⟩ ⟨k1, i2, s2⟩ = 1) := by unfold Hid; rw [hr]; unfold ordI; rw [if_neg hlt, if_pos (by omega)]
        clear hr hcmp hE hi
        go_enter Tryd.func52, Tryd.ntmps52
        go_wp2
        go_ret
        exact ⟨by rw [HR.out]; rfl, HB.out⟩
  · have hr : cmpD ⟨k1, i1, s1⟩ ⟨k2, i2, s2⟩ = ordI k1 k2 := by rw [hcmp]; unfold ordD; rw [if_neg hk]
    have hE' : ∀ w, (binOp .eql 24 (.agg #[.int .i64 k1, .int .i64 i1, .string s1]) (.agg #[.int .i64 k2, .int .i64 i2, .string s2])).run Tryd.prog w = .ok (.bool false) w := fun w => by rw [hE w]; simp [hk]
    have hb : (k1 == k2) = false := by simpa using hk
    by_cases hlt : k1 < k2
    · have HR : Hid (cmpD ⟨k1, i1, s1⟩ ⟨k2, i2, s2⟩ = -1) := by unfold Hid; rw [hr]; unfold ordI; rw [if_pos hlt]
      clear hr hcmp hE hk
      go_enter Tryd.func52, Tryd.ntmps52
      go_wp2
      go_ret
      exact ⟨by rw [HR.out]; rfl, HB.out⟩
    · have HR : Hid (cmpD ⟨k1, i1, s1⟩ ⟨k2, i2, s2⟩ = 1) := by unfold Hid; rw [hr]; unfold ordI; rw [if_neg hlt, if_pos (by omega)]
      clear hr hcmp hE hk
      go_enter Tryd.func52, Tryd.ntmps52
      go_wp2
      go_ret
      exact ⟨by rw [HR.out]; rfl, HB.out⟩


end Go.Proofs.YtimmgiiddckleaaDoor
