/-
  The contracts of the reference's Compare of values and of rows, and of Same; they make memory of their own alone.
-/
import Derived.Test.YtoikbdgbhgokaaaDoorLaw5
import Derived.RegionTactic
import Derived.ChangeAlike
import Derived.Deep.RegionWith
namespace Go.Proofs.YtoikbdgbhgokaaaDoor
open Go.RowKit

theorem toList_iff (s1 s2 : ByteArray) : s1.toList = s2.toList ↔ s1 = s2 := by
  constructor
  · intro h
    rw [ByteArray.toList_eq, ByteArray.toList_eq] at h
    exact ba_eq h
  · intro h; rw [h]

theorem run_eq_datum (k1 i1 : Int) (s1 : ByteArray) (k2 i2 : Int) (s2 : ByteArray) (w : World) :
    (binOp .eql 37 (.agg #[.int .i64 k1, .int .i64 i1, .string s1]) (.agg #[.int .i64 k2, .int .i64 i2, .string s2])).run Tryd.prog w = .ok (.bool (decide (k1 = k2 ∧ i1 = i2 ∧ s1 = s2))) w := by
  go_simp
  simp only [toList_iff]
  by_cases h1 : k1 = k2
  · by_cases h2 : i1 = i2
    · by_cases h3 : s1 = s2
      · simp [h1, h2, h3]
      · simp [h1, h2, h3]
    · simp [h1, h2]
  · simp [h1]

set_option maxRecDepth 100000 in
set_option maxHeartbeats 4000000 in
theorem refCmp_any (k1 i1 : Int) (s1 : ByteArray) (k2 i2 : Int) (s2 : ByteArray) (w : World) :
    Calls Tryd.prog 22 #[.agg #[.int .i64 k1, .int .i64 i1, .string s1], .agg #[.int .i64 k2, .int .i64 i2, .string s2]] w (IntPost (cmpD ⟨k1, i1, s1⟩ ⟨k2, i2, s2⟩) w) := by
  have hE := fun w => run_eq_datum k1 i1 s1 k2 i2 s2 w
  have hcmp : cmpD ⟨k1, i1, s1⟩ ⟨k2, i2, s2⟩ = ordD k1 i1 s1 k2 i2 s2 := rfl
  have hbel : Below w.heap.size w ((w.alloc (.cells #[.int .i64 k1, .int .i64 i1, .string s1] 37)).alloc (.cells #[.int .i64 k2, .int .i64 i2, .string s2] 37)) := ((Below.refl _ _).alloc (Nat.le_refl _) _).alloc (by simp) _
  have HB := Lib.hid hbel
  clear hbel
  by_cases hk : k1 = k2
  · by_cases hi : i1 = i2
    · have hr : cmpD ⟨k1, i1, s1⟩ ⟨k2, i2, s2⟩ = Lib.compareBytes s1.data.toList s2.data.toList := by rw [hcmp]; unfold ordD; rw [if_pos hk, if_pos hi]
      have hl := bytesLess_cb s1.toList s2.toList
      rw [ByteArray.toList_eq, ByteArray.toList_eq] at hl
      have hrange := cb_range s1.data.toList s2.data.toList
      subst hk hi
      by_cases hs : s1 = s2
      · have HR : Hid (cmpD ⟨k1, i1, s1⟩ ⟨k1, i1, s2⟩ = 0) := by unfold Hid; rw [hr, hs]; exact cb_self _
        have hls : Op.bytesLess s1.toList s2.toList = false := by rw [ByteArray.toList_eq, ByteArray.toList_eq, hl, hs, cb_self]; rfl
        subst hs
        clear hr hl hrange hcmp
        simp only [and_self, decide_true] at hE
        go_enter Tryd.func22, Tryd.ntmps22
        go_wp2
        go_ret
        exact ⟨by rw [HR.out]; rfl, HB.out⟩
      · have hE' : ∀ w, (binOp .eql 37 (.agg #[.int .i64 k1, .int .i64 i1, .string s1]) (.agg #[.int .i64 k1, .int .i64 i1, .string s2])).run Tryd.prog w = .ok (.bool false) w := fun w => by rw [hE w]; simp [hs]
        have hne : Lib.compareBytes s1.data.toList s2.data.toList ≠ 0 := fun e => hs (ba_eq (cb_eq _ _ e))
        by_cases hlt : Lib.compareBytes s1.data.toList s2.data.toList = -1
        · have HR : Hid (cmpD ⟨k1, i1, s1⟩ ⟨k1, i1, s2⟩ = -1) := by unfold Hid; rw [hr, hlt]
          have hls : Op.bytesLess s1.toList s2.toList = true := by rw [ByteArray.toList_eq, ByteArray.toList_eq, hl, hlt]; rfl
          clear hr hl hrange hcmp hE hs hne hlt
          go_enter Tryd.func22, Tryd.ntmps22
          go_wp2
          go_ret
          exact ⟨by rw [HR.out]; rfl, HB.out⟩
        · have h1 : Lib.compareBytes s1.data.toList s2.data.toList = 1 := by omega
          have HR : Hid (cmpD ⟨k1, i1, s1⟩ ⟨k1, i1, s2⟩ = 1) := by unfold Hid; rw [hr, h1]
          have hls : Op.bytesLess s1.toList s2.toList = false := by rw [ByteArray.toList_eq, ByteArray.toList_eq, hl, h1]; rfl
          clear hr hl hrange hcmp hE hs hne hlt h1
          go_enter Tryd.func22, Tryd.ntmps22
          go_wp2
          go_ret
          exact ⟨by rw [HR.out]; rfl, HB.out⟩
    · have hr : cmpD ⟨k1, i1, s1⟩ ⟨k2, i2, s2⟩ = ordI i1 i2 := by rw [hcmp]; unfold ordD; rw [if_pos hk, if_neg hi]
      subst hk
      have hE' : ∀ w, (binOp .eql 37 (.agg #[.int .i64 k1, .int .i64 i1, .string s1]) (.agg #[.int .i64 k1, .int .i64 i2, .string s2])).run Tryd.prog w = .ok (.bool false) w := fun w => by rw [hE w]; simp [hi]
      have hb : (i1 == i2) = false := by simpa using hi
      by_cases hlt : i1 < i2
      · have HR : Hid (cmpD ⟨k1, i1, s1⟩ ⟨k1, i2, s2⟩ = -1) := by unfold Hid; rw [hr]; unfold ordI; rw [if_pos hlt]
        clear hr hcmp hE hi
        go_enter Tryd.func22, Tryd.ntmps22
        go_wp2
        go_ret
        exact ⟨by rw [HR.out]; rfl, HB.out⟩
      · have HR : Hid (cmpD ⟨k1, i1, s1⟩ ⟨k1, i2, s2⟩ = 1) := by unfold Hid; rw [hr]; unfold ordI; rw [if_neg hlt, if_pos (by omega)]
        clear hr hcmp hE hi
        go_enter Tryd.func22, Tryd.ntmps22
        go_wp2
        go_ret
        exact ⟨by rw [HR.out]; rfl, HB.out⟩
  · have hr : cmpD ⟨k1, i1, s1⟩ ⟨k2, i2, s2⟩ = ordI k1 k2 := by rw [hcmp]; unfold ordD; rw [if_neg hk]
    have hE' : ∀ w, (binOp .eql 37 (.agg #[.int .i64 k1, .int .i64 i1, .string s1]) (.agg #[.int .i64 k2, .int .i64 i2, .string s2])).run Tryd.prog w = .ok (.bool false) w := fun w => by rw [hE w]; simp [hk]
    have hb : (k1 == k2) = false := by simpa using hk
    by_cases hlt : k1 < k2
    · have HR : Hid (cmpD ⟨k1, i1, s1⟩ ⟨k2, i2, s2⟩ = -1) := by unfold Hid; rw [hr]; unfold ordI; rw [if_pos hlt]
      clear hr hcmp hE hk
      go_enter Tryd.func22, Tryd.ntmps22
      go_wp2
      go_ret
      exact ⟨by rw [HR.out]; rfl, HB.out⟩
    · have HR : Hid (cmpD ⟨k1, i1, s1⟩ ⟨k2, i2, s2⟩ = 1) := by unfold Hid; rw [hr]; unfold ordI; rw [if_neg hlt, if_pos (by omega)]
      clear hr hcmp hE hk
      go_enter Tryd.func22, Tryd.ntmps22
      go_wp2
      go_ret
      exact ⟨by rw [HR.out]; rfl, HB.out⟩

set_option maxRecDepth 100000 in
set_option maxHeartbeats 4000000 in
theorem refCompare_any (b1 o1 c1 b2 o2 c2 : Nat) (l1 l2 : List Dat) (A2 : Option Addr) (w : World) (h1 : b1 < w.heap.size) (r1 : RowAt w b1 o1 l1) (m1 : l1.length ≤ maxLen) (m2 : l2.length ≤ maxLen)
    (h2 : l2 = [] ∨ (A2 = some ⟨b2, o2, none⟩ ∧ b2 < w.heap.size ∧ RowAt w b2 o2 l2)) :
    Calls Tryd.prog 11 #[.slice (some ⟨b1, o1, none⟩) l1.length c1, .slice A2 l2.length c2] w (IntPost (cmpR l1 l2) w) := by
  have R1 := Lib.hid r1
  have H2 := Lib.hid h2
  clear r1 h2
  unfold maxLen at m1 m2
  go_enter Tryd.func11, Tryd.ntmps11
  go_wp2
  go_loopw [9] (fun i wr => ∃ k : Nat, k ≤ l1.length ∧ i = .int .i64 k ∧ Below w.heap.size w wr ∧ Hid (cmpR (l1.drop k) (l2.drop k) = cmpR l1 l2)) (fun i _ => l1.length - (intOf i).toNat)
  case atStart => exact ⟨0, by omega, rfl, Below.refl _ _, by unfold Hid; rw [List.drop_zero, List.drop_zero]⟩
  case round =>
    obtain ⟨k, hk, rfl, hb, HC⟩ := hrel
    have hz := hb.size
    by_cases hlt : k < l1.length
    · by_cases hlt2 : k < l2.length
      · have hd : l1[k]? = some l1[k] := List.getElem?_eq_getElem hlt
        obtain ⟨c0, c1, c2⟩ := R1.out k _ hd
        have cr0 := hb.cell (p := ⟨b1, o1 + k * 3, none⟩) h1
        have cr1 := hb.cell (p := ⟨b1, o1 + k * 3 + 1, none⟩) h1
        have cr2 := hb.cell (p := ⟨b1, o1 + k * 3 + 2, none⟩) h1
        rw [c0] at cr0
        rw [c1] at cr1
        rw [c2] at cr2
        clear c0 c1 c2 hd
        have HS := Lib.hid (cmpR_step l1 l2 k hlt hlt2)
        have hd2 : l2[k]? = some l2[k] := List.getElem?_eq_getElem hlt2
        rcases H2.out with rfl | ⟨rfl, hb2, r2⟩
        · simp at hlt2
        obtain ⟨e0, e1, e2⟩ := r2 k _ hd2
        have er0 := hb.cell (p := ⟨b2, o2 + k * 3, none⟩) hb2
        have er1 := hb.cell (p := ⟨b2, o2 + k * 3 + 1, none⟩) hb2
        have er2 := hb.cell (p := ⟨b2, o2 + k * 3 + 2, none⟩) hb2
        rw [e0] at er0
        rw [e1] at er1
        rw [e2] at er2
        clear e0 e1 e2 r2 hd2
        revert cr0 cr1 cr2 er0 er1 er2 HS
        generalize l1[k] = d1
        generalize l2[k] = d2
        obtain ⟨k1, i1, s1⟩ := d1
        obtain ⟨k2, i2, s2⟩ := d2
        intro cr0 cr1 cr2 HS er0 er1 er2
        have HX : Hid (∀ W, Calls Tryd.prog 22 #[.agg #[.int .i64 k1, .int .i64 i1, .string s1], .agg #[.int .i64 k2, .int .i64 i2, .string s2]] W (IntPost (cmpD ⟨k1, i1, s1⟩ ⟨k2, i2, s2⟩) W)) := fun W => refCmp_any k1 i1 s1 k2 i2 s2 W
        revert HX HS
        generalize cmpD ⟨k1, i1, s1⟩ ⟨k2, i2, s2⟩ = X
        intro HS HX
        by_cases hx : X = 0
        · subst hx
          have HC2 : Hid (cmpR (l1.drop (k + 1)) (l2.drop (k + 1)) = cmpR l1 l2) := by
            have := HS.out
            rw [if_pos rfl] at this
            exact this.symm.trans HC.out
          go_wp2_with fail
          go_region_with (go_at_call 22; refine (HX.out _).mono ?_; rintro e w1 ⟨rfl, hb1⟩)
          all_goals
            go_wp2
            have hb2' := Below.trans hb.drew (hb1.mono hz)
            go_roundw
            case rel => exact ⟨k + 1, by omega, by go_num, hb2', HC2⟩
            case measure => simp [intOf]; omega
        · have hxb : (X != 0) = true := by simpa using hx
          have hxc : (X == 0) = false := by simpa using hx
          have HC2 : Hid (cmpR l1 l2 = X) := by
            have := HS.out
            rw [if_neg hx] at this
            exact HC.out.symm.trans this
          clear hx
          go_wp2_with fail
          go_region_with (go_at_call 22; refine (HX.out _).mono ?_; rintro e w1 ⟨rfl, hb1⟩)
          all_goals
            go_wp2
            go_ret
            exact ⟨by rw [HC2.out]; rfl, Below.trans hb.drew (hb1.mono hz)⟩
      · have HC2 : Hid (cmpR l1 l2 = 1) := HC.out.symm.trans (cmpR_long l1 l2 k hlt (by omega))
        go_wp2
        go_ret
        exact ⟨by rw [HC2.out]; rfl, hb⟩
    · have HC2 : Hid (cmpR l1 l2 = if k < l2.length then -1 else 0) := HC.out.symm.trans (cmpR_end l1 l2 k (by omega))
      obtain rfl : k = l1.length := by omega
      by_cases hlt2 : l1.length < l2.length
      · have HC3 : Hid (cmpR l1 l2 = -1) := by have := HC2.out; rwa [if_pos hlt2] at this
        clear HC2 HC
        go_wp2
        go_ret
        exact ⟨by rw [HC3.out]; rfl, hb⟩
      · have HC3 : Hid (cmpR l1 l2 = 0) := by have := HC2.out; rwa [if_neg hlt2] at this
        clear HC2 HC
        go_wp2
        go_ret
        exact ⟨by rw [HC3.out]; rfl, hb⟩

set_option maxRecDepth 100000 in
set_option maxHeartbeats 4000000 in
theorem refCompare_nil (c2 : Nat) (l2 : List Dat) (A2 : Option Addr) (w : World) (m2 : l2.length ≤ maxLen) :
    Calls Tryd.prog 11 #[.slice none 0 0, .slice A2 l2.length c2] w (IntPost (cmpR [] l2) w) := by
  have HE : Hid (cmpR [] l2 = if 0 < l2.length then -1 else 0) := by
    have := cmpR_end [] l2 0 (by simp)
    rwa [List.drop_zero, List.drop_zero] at this
  unfold maxLen at m2
  by_cases hlt2 : 0 < l2.length
  · have HC3 : Hid (cmpR [] l2 = -1) := by have := HE.out; rwa [if_pos hlt2] at this
    clear HE
    have hz : (0 : Int) < l2.length := by omega
    go_enter Tryd.func11, Tryd.ntmps11
    go_wp2
    go_loopw [9] (fun i wr => i = .int .i64 0 ∧ wr = w) (fun _ _ => 0)
    case atStart => exact ⟨rfl, rfl⟩
    case round =>
      obtain ⟨rfl, rfl⟩ := hrel
      go_wp2
      go_ret
      exact ⟨by rw [HC3.out]; rfl, Below.refl _ _⟩
  · have HC3 : Hid (cmpR [] l2 = 0) := by have := HE.out; rwa [if_neg hlt2] at this
    clear HE
    have hz : ¬ (0 : Int) < l2.length := by omega
    go_enter Tryd.func11, Tryd.ntmps11
    go_wp2
    go_loopw [9] (fun i wr => i = .int .i64 0 ∧ wr = w) (fun _ _ => 0)
    case atStart => exact ⟨rfl, rfl⟩
    case round =>
      obtain ⟨rfl, rfl⟩ := hrel
      go_wp2
      go_ret
      exact ⟨by rw [HC3.out]; rfl, Below.refl _ _⟩

theorem refCompare_row (v1 v2 : Value) (l1 l2 : List Dat) (w : World) (h1 : RowV w v1 l1) (h2 : RowV w v2 l2) :
    Calls Tryd.prog 11 #[v1, v2] w (IntPost (cmpR l1 l2) w) := by
  rcases h1 with ⟨rfl, rfl⟩ | ⟨b1, o1, c1, rfl, m1, hb1, r1⟩
  · rcases h2 with ⟨rfl, rfl⟩ | ⟨b2, o2, c2, rfl, m2, hb2, r2⟩
    · exact refCompare_nil 0 [] none w (by simp [maxLen])
    · exact refCompare_nil c2 l2 _ w m2
  · rcases h2 with ⟨rfl, rfl⟩ | ⟨b2, o2, c2, rfl, m2, hb2, r2⟩
    · exact refCompare_any b1 o1 c1 0 0 0 l1 [] none w hb1 r1 m1 (by simp [maxLen]) (.inl rfl)
    · exact refCompare_any b1 o1 c1 b2 o2 c2 l1 l2 _ w hb1 r1 m1 m2 (.inr ⟨rfl, hb2, r2⟩)

set_option maxRecDepth 100000 in
theorem refSame_row (v1 v2 : Value) (l : List Dat) (w : World) (h1 : RowV w v1 l) (h2 : RowV w v2 l) :
    Calls Tryd.prog 19 #[v1, v2] w (RightPost true w) := by
  have H : Hid (Calls Tryd.prog 11 #[v1, v2] w (IntPost (cmpR l l) w)) := refCompare_row v1 v2 l l w h1 h2
  have h0 : cmpR l l = 0 := by
    clear h1 h2 H
    induction l with
    | nil => rfl
    | cons d l ih => rw [cmpR, if_pos (show cmpD d d = 0 from ordD_self _ _ _)]; exact ih
  rw [h0] at H
  clear h1 h2 h0
  go_enter Tryd.func19, Tryd.ntmps19
  go_wp2_with (go_at_call 11; refine H.out.mono ?_; rintro e w1 ⟨rfl, hb1⟩)
  go_ret
  exact ⟨rfl, hb1⟩

end Go.Proofs.YtoikbdgbhgokaaaDoor
