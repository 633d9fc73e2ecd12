/-
  The walk of the law DatumCompares at a NULL, and at two kinds that can't be held against each other.
-/
import Derived.Test.YtkobjlmnbfkgaaaDoorLaw5Base
import Derived.Deep.RegionWith
namespace Go.Proofs.YtkobjlmnbfkgaaaDoor
open Go.RowKit

set_option maxHeartbeats 8000000 in
set_option maxRecDepth 100000 in
theorem cmp_null1 (i1 : Int) (s1 : ByteArray) (k2 i2 : Int) (s2 : ByteArray) (w : World) 
    (HR1 : Hid (∀ W, Calls Tryd.prog 10 #[.agg #[.int .i64 0, .int .i64 i1, .string s1]] W (RightPost true W)))
    (HR2 : Hid (∀ W, Calls Tryd.prog 10 #[.agg #[.int .i64 k2, .int .i64 i2, .string s2]] W (RightPost true W)))
    (HA : Hid (∀ (j : Nat) (W : World) (b : Nat), j < 6 → Below w.heap.size w W → Blk W b #[.int .i64 0, .int .i64 i1, .string s1, .int .i64 k2, .int .i64 i2, .string s2] 23 → Calls Tryd.prog 15 #[.int .i64 (7 + (j : Int)), .slice (some ⟨b, 0, none⟩) 2 2] W (ResPost 0 0 0 W))) :
    Calls Tryd.prog 5 #[.agg #[.int .i64 0, .int .i64 i1, .string s1], .agg #[.int .i64 k2, .int .i64 i2, .string s2]] w fun e w' => e = .returned (.bool true) ∧ Below w.heap.size w w' := by
  have HA0 : Hid (Blk ((w.alloc (.cells #[.int .i64 0, .int .i64 i1, .string s1] 23)).alloc (.cells #[.int .i64 k2, .int .i64 i2, .string s2] 23)) w.heap.size #[.int .i64 0, .int .i64 i1, .string s1] 23) := (Blk.new w _ 23).alloc _
  have HB0 : Hid (Blk ((w.alloc (.cells #[.int .i64 0, .int .i64 i1, .string s1] 23)).alloc (.cells #[.int .i64 k2, .int .i64 i2, .string s2] 23)) (w.heap.size + 1) #[.int .i64 k2, .int .i64 i2, .string s2] 23) := by
    have := Blk.new (w.alloc (.cells #[.int .i64 0, .int .i64 i1, .string s1] 23)) #[.int .i64 k2, .int .i64 i2, .string s2] 23
    simpa [Hid] using this
  have HB : Hid (Below w.heap.size w ((w.alloc (.cells #[.int .i64 0, .int .i64 i1, .string s1] 23)).alloc (.cells #[.int .i64 k2, .int .i64 i2, .string s2] 23))) := ((Below.refl _ _).alloc (Nat.le_refl _) _).alloc (by simp) _
  go_enter Tryd.func5, Tryd.ntmps5
  go_wp2_with fail
  refine (HR1.out _).mono ?_
  rintro e w1 ⟨rfl, hb1⟩
  have hA1 := HA0.out.below hb1
  have hB1 := HB0.out.below hb1
  have hc1 := HB.out.trans (hb1.mono HB.out.size)
  have hz1 := hc1.size
  have a0 := hA1.cell 0; have a1 := hA1.cell 1; have a2 := hA1.cell 2
  have b0 := hB1.cell 0; have b1 := hB1.cell 1; have b2 := hB1.cell 2
  simp only [List.getElem?_toArray, List.getElem?_cons_zero, List.getElem?_cons_succ] at a0 a1 a2 b0 b1 b2
  go_wp2_with fail
  refine (HR2.out _).mono ?_
  rintro e w2 ⟨rfl, hb2⟩
  have hA2 := hA1.below hb2
  have hB2 := hB1.below hb2
  have hc2 := hc1.trans (hb2.mono hc1.size)
  have hz2 := hc2.size
  have hlB2 := hB2.lt
  clear hA1 hB1 a0 a1 a2 b0 b1 b2 hb1 hb2
  go_wp2
  go_loopw [20] (fun q wr => ∃ k : Nat, k ≤ 6 ∧ q = .int .i64 k ∧ Below w.heap.size w wr ∧ Blk wr w.heap.size #[.int .i64 0, .int .i64 i1, .string s1] 23 ∧ Blk wr (w.heap.size + 1) #[.int .i64 k2, .int .i64 i2, .string s2] 23) (fun q _ => 6 - (intOf q).toNat)
  case atStart => exact ⟨0, by omega, rfl, hc2.alloc hz2 _, hA2.alloc _, hB2.alloc _⟩
  case round =>
    obtain ⟨k, hk, rfl, hb, hA, hB⟩ := hrel
    have hz := hb.size
    have HBk := Lib.hid hb
    by_cases hlt : k < 6
    · have hcall : Hid (∀ W b, Below w.heap.size w W → Blk W b #[.int .i64 0, .int .i64 i1, .string s1, .int .i64 k2, .int .i64 i2, .string s2] 23 → Calls Tryd.prog 15 #[.int .i64 (7 + (k : Int)), .slice (some ⟨b, 0, none⟩) 2 2] W (ResPost 0 0 0 W)) := fun W b hW h => HA.out k W b hlt hW h
      have a0 := hA.cell 0; have a1 := hA.cell 1; have a2 := hA.cell 2
      have b0 := hB.cell 0; have b1 := hB.cell 1; have b2 := hB.cell 2
      simp only [List.getElem?_toArray, List.getElem?_cons_zero, List.getElem?_cons_succ] at a0 a1 a2 b0 b1 b2
      have hC : Blk (wr.alloc (.cells #[.int .i64 0, .int .i64 i1, .string s1, .int .i64 k2, .int .i64 i2, .string s2] 23)) wr.heap.size #[.int .i64 0, .int .i64 i1, .string s1, .int .i64 k2, .int .i64 i2, .string s2] 23 := Blk.new _ _ _
      have HC := Lib.hid hC
      clear hC
      go_wp2_with fail
      refine (hcall.out _ _ (HBk.out.alloc hz _) HC.out).mono ?_
      rintro e w3 ⟨rfl, hb3⟩
      have hA3 := (hA.alloc (.cells #[.int .i64 0, .int .i64 i1, .string s1, .int .i64 k2, .int .i64 i2, .string s2] 23)).below hb3
      have hB3 := (hB.alloc (.cells #[.int .i64 0, .int .i64 i1, .string s1, .int .i64 k2, .int .i64 i2, .string s2] 23)).below hb3
      have hc3 := (hb.alloc hz (.cells #[.int .i64 0, .int .i64 i1, .string s1, .int .i64 k2, .int .i64 i2, .string s2] 23)).trans (hb3.mono (by simp <;> omega))
      have hz3 := hc3.size
      have hlA3 := hA3.lt
      have hlB3 := hB3.lt
      clear a0 a1 a2 b0 b1 b2 hb3 hA hB hb
      have a0 := hA3.cell 0; have a1 := hA3.cell 1; have a2 := hA3.cell 2
      have b0 := hB3.cell 0; have b1 := hB3.cell 1; have b2 := hB3.cell 2
      simp only [List.getElem?_toArray, List.getElem?_cons_zero, List.getElem?_cons_succ] at a0 a1 a2 b0 b1 b2
      go_wp2
      go_roundw
      case rel => exact ⟨k + 1, by omega, by go_num, hc3.alloc hz3 _, hA3.alloc _, hB3.alloc _⟩
      case measure => simp [intOf]; omega
    · obtain rfl : k = 6 := by omega
      go_wp2
      go_ret
      exact ⟨rfl, HBk.out⟩

set_option maxHeartbeats 8000000 in
set_option maxRecDepth 100000 in
theorem cmp_null2 (k1 i1 : Int) (s1 : ByteArray) (i2 : Int) (s2 : ByteArray) (w : World) (e1 : (k1 == 0) = false)
    (HR1 : Hid (∀ W, Calls Tryd.prog 10 #[.agg #[.int .i64 k1, .int .i64 i1, .string s1]] W (RightPost true W)))
    (HR2 : Hid (∀ W, Calls Tryd.prog 10 #[.agg #[.int .i64 0, .int .i64 i2, .string s2]] W (RightPost true W)))
    (HA : Hid (∀ (j : Nat) (W : World) (b : Nat), j < 6 → Below w.heap.size w W → Blk W b #[.int .i64 k1, .int .i64 i1, .string s1, .int .i64 0, .int .i64 i2, .string s2] 23 → Calls Tryd.prog 15 #[.int .i64 (7 + (j : Int)), .slice (some ⟨b, 0, none⟩) 2 2] W (ResPost 0 0 0 W))) :
    Calls Tryd.prog 5 #[.agg #[.int .i64 k1, .int .i64 i1, .string s1], .agg #[.int .i64 0, .int .i64 i2, .string s2]] w fun e w' => e = .returned (.bool true) ∧ Below w.heap.size w w' := by
  have HA0 : Hid (Blk ((w.alloc (.cells #[.int .i64 k1, .int .i64 i1, .string s1] 23)).alloc (.cells #[.int .i64 0, .int .i64 i2, .string s2] 23)) w.heap.size #[.int .i64 k1, .int .i64 i1, .string s1] 23) := (Blk.new w _ 23).alloc _
  have HB0 : Hid (Blk ((w.alloc (.cells #[.int .i64 k1, .int .i64 i1, .string s1] 23)).alloc (.cells #[.int .i64 0, .int .i64 i2, .string s2] 23)) (w.heap.size + 1) #[.int .i64 0, .int .i64 i2, .string s2] 23) := by
    have := Blk.new (w.alloc (.cells #[.int .i64 k1, .int .i64 i1, .string s1] 23)) #[.int .i64 0, .int .i64 i2, .string s2] 23
    simpa [Hid] using this
  have HB : Hid (Below w.heap.size w ((w.alloc (.cells #[.int .i64 k1, .int .i64 i1, .string s1] 23)).alloc (.cells #[.int .i64 0, .int .i64 i2, .string s2] 23))) := ((Below.refl _ _).alloc (Nat.le_refl _) _).alloc (by simp) _
  go_enter Tryd.func5, Tryd.ntmps5
  go_wp2_with fail
  refine (HR1.out _).mono ?_
  rintro e w1 ⟨rfl, hb1⟩
  have hA1 := HA0.out.below hb1
  have hB1 := HB0.out.below hb1
  have hc1 := HB.out.trans (hb1.mono HB.out.size)
  have hz1 := hc1.size
  have a0 := hA1.cell 0; have a1 := hA1.cell 1; have a2 := hA1.cell 2
  have b0 := hB1.cell 0; have b1 := hB1.cell 1; have b2 := hB1.cell 2
  simp only [List.getElem?_toArray, List.getElem?_cons_zero, List.getElem?_cons_succ] at a0 a1 a2 b0 b1 b2
  go_wp2_with fail
  refine (HR2.out _).mono ?_
  rintro e w2 ⟨rfl, hb2⟩
  have hA2 := hA1.below hb2
  have hB2 := hB1.below hb2
  have hc2 := hc1.trans (hb2.mono hc1.size)
  have hz2 := hc2.size
  have hlB2 := hB2.lt
  clear hA1 hB1 a0 a1 a2 b0 b1 b2 hb1 hb2
  go_wp2
  go_loopw [20] (fun q wr => ∃ k : Nat, k ≤ 6 ∧ q = .int .i64 k ∧ Below w.heap.size w wr ∧ Blk wr w.heap.size #[.int .i64 k1, .int .i64 i1, .string s1] 23 ∧ Blk wr (w.heap.size + 1) #[.int .i64 0, .int .i64 i2, .string s2] 23) (fun q _ => 6 - (intOf q).toNat)
  case atStart => exact ⟨0, by omega, rfl, hc2.alloc hz2 _, hA2.alloc _, hB2.alloc _⟩
  case round =>
    obtain ⟨k, hk, rfl, hb, hA, hB⟩ := hrel
    have hz := hb.size
    have HBk := Lib.hid hb
    by_cases hlt : k < 6
    · have hcall : Hid (∀ W b, Below w.heap.size w W → Blk W b #[.int .i64 k1, .int .i64 i1, .string s1, .int .i64 0, .int .i64 i2, .string s2] 23 → Calls Tryd.prog 15 #[.int .i64 (7 + (k : Int)), .slice (some ⟨b, 0, none⟩) 2 2] W (ResPost 0 0 0 W)) := fun W b hW h => HA.out k W b hlt hW h
      have a0 := hA.cell 0; have a1 := hA.cell 1; have a2 := hA.cell 2
      have b0 := hB.cell 0; have b1 := hB.cell 1; have b2 := hB.cell 2
      simp only [List.getElem?_toArray, List.getElem?_cons_zero, List.getElem?_cons_succ] at a0 a1 a2 b0 b1 b2
      have hC : Blk (wr.alloc (.cells #[.int .i64 k1, .int .i64 i1, .string s1, .int .i64 0, .int .i64 i2, .string s2] 23)) wr.heap.size #[.int .i64 k1, .int .i64 i1, .string s1, .int .i64 0, .int .i64 i2, .string s2] 23 := Blk.new _ _ _
      have HC := Lib.hid hC
      clear hC
      go_wp2_with fail
      refine (hcall.out _ _ (HBk.out.alloc hz _) HC.out).mono ?_
      rintro e w3 ⟨rfl, hb3⟩
      have hA3 := (hA.alloc (.cells #[.int .i64 k1, .int .i64 i1, .string s1, .int .i64 0, .int .i64 i2, .string s2] 23)).below hb3
      have hB3 := (hB.alloc (.cells #[.int .i64 k1, .int .i64 i1, .string s1, .int .i64 0, .int .i64 i2, .string s2] 23)).below hb3
      have hc3 := (hb.alloc hz (.cells #[.int .i64 k1, .int .i64 i1, .string s1, .int .i64 0, .int .i64 i2, .string s2] 23)).trans (hb3.mono (by simp <;> omega))
      have hz3 := hc3.size
      have hlA3 := hA3.lt
      have hlB3 := hB3.lt
      clear a0 a1 a2 b0 b1 b2 hb3 hA hB hb
      have a0 := hA3.cell 0; have a1 := hA3.cell 1; have a2 := hA3.cell 2
      have b0 := hB3.cell 0; have b1 := hB3.cell 1; have b2 := hB3.cell 2
      simp only [List.getElem?_toArray, List.getElem?_cons_zero, List.getElem?_cons_succ] at a0 a1 a2 b0 b1 b2
      go_wp2
      go_roundw
      case rel => exact ⟨k + 1, by omega, by go_num, hc3.alloc hz3 _, hA3.alloc _, hB3.alloc _⟩
      case measure => simp [intOf]; omega
    · obtain rfl : k = 6 := by omega
      go_wp2
      go_ret
      exact ⟨rfl, HBk.out⟩

set_option maxHeartbeats 8000000 in
set_option maxRecDepth 100000 in
theorem cmp_type1 (k1 i1 : Int) (s1 : ByteArray) (k2 i2 : Int) (s2 : ByteArray) (w : World) (e1 : (k1 == 0) = false) (e2 : (k2 == 0) = false) (e3 : (k1 == k2) = false) (e4 : (k1 == 2) = false) (e5 : (k1 == 3) = false)
    (HR1 : Hid (∀ W, Calls Tryd.prog 10 #[.agg #[.int .i64 k1, .int .i64 i1, .string s1]] W (RightPost true W)))
    (HR2 : Hid (∀ W, Calls Tryd.prog 10 #[.agg #[.int .i64 k2, .int .i64 i2, .string s2]] W (RightPost true W)))
    (HA : Hid (∀ (j : Nat) (W : World) (b : Nat), j < 6 → Below w.heap.size w W → Blk W b #[.int .i64 k1, .int .i64 i1, .string s1, .int .i64 k2, .int .i64 i2, .string s2] 23 → Calls Tryd.prog 15 #[.int .i64 (7 + (j : Int)), .slice (some ⟨b, 0, none⟩) 2 2] W (ResPost 0 0 5 W))) :
    Calls Tryd.prog 5 #[.agg #[.int .i64 k1, .int .i64 i1, .string s1], .agg #[.int .i64 k2, .int .i64 i2, .string s2]] w fun e w' => e = .returned (.bool true) ∧ Below w.heap.size w w' := by
  have e6 : (k1 != k2) = true := by rw [bne, e3]; rfl
  have HA0 : Hid (Blk ((w.alloc (.cells #[.int .i64 k1, .int .i64 i1, .string s1] 23)).alloc (.cells #[.int .i64 k2, .int .i64 i2, .string s2] 23)) w.heap.size #[.int .i64 k1, .int .i64 i1, .string s1] 23) := (Blk.new w _ 23).alloc _
  have HB0 : Hid (Blk ((w.alloc (.cells #[.int .i64 k1, .int .i64 i1, .string s1] 23)).alloc (.cells #[.int .i64 k2, .int .i64 i2, .string s2] 23)) (w.heap.size + 1) #[.int .i64 k2, .int .i64 i2, .string s2] 23) := by
    have := Blk.new (w.alloc (.cells #[.int .i64 k1, .int .i64 i1, .string s1] 23)) #[.int .i64 k2, .int .i64 i2, .string s2] 23
    simpa [Hid] using this
  have HB : Hid (Below w.heap.size w ((w.alloc (.cells #[.int .i64 k1, .int .i64 i1, .string s1] 23)).alloc (.cells #[.int .i64 k2, .int .i64 i2, .string s2] 23))) := ((Below.refl _ _).alloc (Nat.le_refl _) _).alloc (by simp) _
  go_enter Tryd.func5, Tryd.ntmps5
  go_wp2_with fail
  refine (HR1.out _).mono ?_
  rintro e w1 ⟨rfl, hb1⟩
  have hA1 := HA0.out.below hb1
  have hB1 := HB0.out.below hb1
  have hc1 := HB.out.trans (hb1.mono HB.out.size)
  have hz1 := hc1.size
  have a0 := hA1.cell 0; have a1 := hA1.cell 1; have a2 := hA1.cell 2
  have b0 := hB1.cell 0; have b1 := hB1.cell 1; have b2 := hB1.cell 2
  simp only [List.getElem?_toArray, List.getElem?_cons_zero, List.getElem?_cons_succ] at a0 a1 a2 b0 b1 b2
  go_wp2_with fail
  refine (HR2.out _).mono ?_
  rintro e w2 ⟨rfl, hb2⟩
  have hA2 := hA1.below hb2
  have hB2 := hB1.below hb2
  have hc2 := hc1.trans (hb2.mono hc1.size)
  have hz2 := hc2.size
  have hlB2 := hB2.lt
  clear hA1 hB1 a0 a1 a2 b0 b1 b2 hb1 hb2
  go_wp2
  go_loopw [20] (fun q wr => ∃ k : Nat, k ≤ 6 ∧ q = .int .i64 k ∧ Below w.heap.size w wr ∧ Blk wr w.heap.size #[.int .i64 k1, .int .i64 i1, .string s1] 23 ∧ Blk wr (w.heap.size + 1) #[.int .i64 k2, .int .i64 i2, .string s2] 23) (fun q _ => 6 - (intOf q).toNat)
  case atStart => exact ⟨0, by omega, rfl, hc2.alloc hz2 _, hA2.alloc _, hB2.alloc _⟩
  case round =>
    obtain ⟨k, hk, rfl, hb, hA, hB⟩ := hrel
    have hz := hb.size
    have HBk := Lib.hid hb
    by_cases hlt : k < 6
    · have hcall : Hid (∀ W b, Below w.heap.size w W → Blk W b #[.int .i64 k1, .int .i64 i1, .string s1, .int .i64 k2, .int .i64 i2, .string s2] 23 → Calls Tryd.prog 15 #[.int .i64 (7 + (k : Int)), .slice (some ⟨b, 0, none⟩) 2 2] W (ResPost 0 0 5 W)) := fun W b hW h => HA.out k W b hlt hW h
      have a0 := hA.cell 0; have a1 := hA.cell 1; have a2 := hA.cell 2
      have b0 := hB.cell 0; have b1 := hB.cell 1; have b2 := hB.cell 2
      simp only [List.getElem?_toArray, List.getElem?_cons_zero, List.getElem?_cons_succ] at a0 a1 a2 b0 b1 b2
      have hC : Blk (wr.alloc (.cells #[.int .i64 k1, .int .i64 i1, .string s1, .int .i64 k2, .int .i64 i2, .string s2] 23)) wr.heap.size #[.int .i64 k1, .int .i64 i1, .string s1, .int .i64 k2, .int .i64 i2, .string s2] 23 := Blk.new _ _ _
      have HC := Lib.hid hC
      clear hC
      go_wp2_with fail
      refine (hcall.out _ _ (HBk.out.alloc hz _) HC.out).mono ?_
      rintro e w3 ⟨rfl, hb3⟩
      have hA3 := (hA.alloc (.cells #[.int .i64 k1, .int .i64 i1, .string s1, .int .i64 k2, .int .i64 i2, .string s2] 23)).below hb3
      have hB3 := (hB.alloc (.cells #[.int .i64 k1, .int .i64 i1, .string s1, .int .i64 k2, .int .i64 i2, .string s2] 23)).below hb3
      have hc3 := (hb.alloc hz (.cells #[.int .i64 k1, .int .i64 i1, .string s1, .int .i64 k2, .int .i64 i2, .string s2] 23)).trans (hb3.mono (by simp <;> omega))
      have hz3 := hc3.size
      have hlA3 := hA3.lt
      have hlB3 := hB3.lt
      clear a0 a1 a2 b0 b1 b2 hb3 hA hB hb
      have a0 := hA3.cell 0; have a1 := hA3.cell 1; have a2 := hA3.cell 2
      have b0 := hB3.cell 0; have b1 := hB3.cell 1; have b2 := hB3.cell 2
      simp only [List.getElem?_toArray, List.getElem?_cons_zero, List.getElem?_cons_succ] at a0 a1 a2 b0 b1 b2
      go_wp2
      go_roundw
      case rel => exact ⟨k + 1, by omega, by go_num, hc3.alloc hz3 _, hA3.alloc _, hB3.alloc _⟩
      case measure => simp [intOf]; omega
    · obtain rfl : k = 6 := by omega
      go_wp2
      go_ret
      exact ⟨rfl, HBk.out⟩

set_option maxHeartbeats 8000000 in
set_option maxRecDepth 100000 in
theorem cmp_type2_2 (i1 : Int) (s1 : ByteArray) (k2 i2 : Int) (s2 : ByteArray) (w : World) (e2 : (k2 == 0) = false) (e3 : ((2 : Int) == k2) = false) (e4 : (k2 == 2) = false) (e5 : (k2 == 3) = false)
    (HR1 : Hid (∀ W, Calls Tryd.prog 10 #[.agg #[.int .i64 2, .int .i64 i1, .string s1]] W (RightPost true W)))
    (HR2 : Hid (∀ W, Calls Tryd.prog 10 #[.agg #[.int .i64 k2, .int .i64 i2, .string s2]] W (RightPost true W)))
    (HA : Hid (∀ (j : Nat) (W : World) (b : Nat), j < 6 → Below w.heap.size w W → Blk W b #[.int .i64 2, .int .i64 i1, .string s1, .int .i64 k2, .int .i64 i2, .string s2] 23 → Calls Tryd.prog 15 #[.int .i64 (7 + (j : Int)), .slice (some ⟨b, 0, none⟩) 2 2] W (ResPost 0 0 5 W))) :
    Calls Tryd.prog 5 #[.agg #[.int .i64 2, .int .i64 i1, .string s1], .agg #[.int .i64 k2, .int .i64 i2, .string s2]] w fun e w' => e = .returned (.bool true) ∧ Below w.heap.size w w' := by
  have e6 : ((2 : Int) != k2) = true := by rw [bne, e3]; rfl
  have HA0 : Hid (Blk ((w.alloc (.cells #[.int .i64 2, .int .i64 i1, .string s1] 23)).alloc (.cells #[.int .i64 k2, .int .i64 i2, .string s2] 23)) w.heap.size #[.int .i64 2, .int .i64 i1, .string s1] 23) := (Blk.new w _ 23).alloc _
  have HB0 : Hid (Blk ((w.alloc (.cells #[.int .i64 2, .int .i64 i1, .string s1] 23)).alloc (.cells #[.int .i64 k2, .int .i64 i2, .string s2] 23)) (w.heap.size + 1) #[.int .i64 k2, .int .i64 i2, .string s2] 23) := by
    have := Blk.new (w.alloc (.cells #[.int .i64 2, .int .i64 i1, .string s1] 23)) #[.int .i64 k2, .int .i64 i2, .string s2] 23
    simpa [Hid] using this
  have HB : Hid (Below w.heap.size w ((w.alloc (.cells #[.int .i64 2, .int .i64 i1, .string s1] 23)).alloc (.cells #[.int .i64 k2, .int .i64 i2, .string s2] 23))) := ((Below.refl _ _).alloc (Nat.le_refl _) _).alloc (by simp) _
  go_enter Tryd.func5, Tryd.ntmps5
  go_wp2_with fail
  refine (HR1.out _).mono ?_
  rintro e w1 ⟨rfl, hb1⟩
  have hA1 := HA0.out.below hb1
  have hB1 := HB0.out.below hb1
  have hc1 := HB.out.trans (hb1.mono HB.out.size)
  have hz1 := hc1.size
  have a0 := hA1.cell 0; have a1 := hA1.cell 1; have a2 := hA1.cell 2
  have b0 := hB1.cell 0; have b1 := hB1.cell 1; have b2 := hB1.cell 2
  simp only [List.getElem?_toArray, List.getElem?_cons_zero, List.getElem?_cons_succ] at a0 a1 a2 b0 b1 b2
  go_wp2_with fail
  refine (HR2.out _).mono ?_
  rintro e w2 ⟨rfl, hb2⟩
  have hA2 := hA1.below hb2
  have hB2 := hB1.below hb2
  have hc2 := hc1.trans (hb2.mono hc1.size)
  have hz2 := hc2.size
  have hlB2 := hB2.lt
  clear hA1 hB1 a0 a1 a2 b0 b1 b2 hb1 hb2
  go_wp2
  go_loopw [20] (fun q wr => ∃ k : Nat, k ≤ 6 ∧ q = .int .i64 k ∧ Below w.heap.size w wr ∧ Blk wr w.heap.size #[.int .i64 2, .int .i64 i1, .string s1] 23 ∧ Blk wr (w.heap.size + 1) #[.int .i64 k2, .int .i64 i2, .string s2] 23) (fun q _ => 6 - (intOf q).toNat)
  case atStart => exact ⟨0, by omega, rfl, hc2.alloc hz2 _, hA2.alloc _, hB2.alloc _⟩
  case round =>
    obtain ⟨k, hk, rfl, hb, hA, hB⟩ := hrel
    have hz := hb.size
    have HBk := Lib.hid hb
    by_cases hlt : k < 6
    · have hcall : Hid (∀ W b, Below w.heap.size w W → Blk W b #[.int .i64 2, .int .i64 i1, .string s1, .int .i64 k2, .int .i64 i2, .string s2] 23 → Calls Tryd.prog 15 #[.int .i64 (7 + (k : Int)), .slice (some ⟨b, 0, none⟩) 2 2] W (ResPost 0 0 5 W)) := fun W b hW h => HA.out k W b hlt hW h
      have a0 := hA.cell 0; have a1 := hA.cell 1; have a2 := hA.cell 2
      have b0 := hB.cell 0; have b1 := hB.cell 1; have b2 := hB.cell 2
      simp only [List.getElem?_toArray, List.getElem?_cons_zero, List.getElem?_cons_succ] at a0 a1 a2 b0 b1 b2
      have hC : Blk (wr.alloc (.cells #[.int .i64 2, .int .i64 i1, .string s1, .int .i64 k2, .int .i64 i2, .string s2] 23)) wr.heap.size #[.int .i64 2, .int .i64 i1, .string s1, .int .i64 k2, .int .i64 i2, .string s2] 23 := Blk.new _ _ _
      have HC := Lib.hid hC
      clear hC
      go_wp2_with fail
      refine (hcall.out _ _ (HBk.out.alloc hz _) HC.out).mono ?_
      rintro e w3 ⟨rfl, hb3⟩
      have hA3 := (hA.alloc (.cells #[.int .i64 2, .int .i64 i1, .string s1, .int .i64 k2, .int .i64 i2, .string s2] 23)).below hb3
      have hB3 := (hB.alloc (.cells #[.int .i64 2, .int .i64 i1, .string s1, .int .i64 k2, .int .i64 i2, .string s2] 23)).below hb3
      have hc3 := (hb.alloc hz (.cells #[.int .i64 2, .int .i64 i1, .string s1, .int .i64 k2, .int .i64 i2, .string s2] 23)).trans (hb3.mono (by simp <;> omega))
      have hz3 := hc3.size
      have hlA3 := hA3.lt
      have hlB3 := hB3.lt
      clear a0 a1 a2 b0 b1 b2 hb3 hA hB hb
      have a0 := hA3.cell 0; have a1 := hA3.cell 1; have a2 := hA3.cell 2
      have b0 := hB3.cell 0; have b1 := hB3.cell 1; have b2 := hB3.cell 2
      simp only [List.getElem?_toArray, List.getElem?_cons_zero, List.getElem?_cons_succ] at a0 a1 a2 b0 b1 b2
      go_wp2
      go_roundw
      case rel => exact ⟨k + 1, by omega, by go_num, hc3.alloc hz3 _, hA3.alloc _, hB3.alloc _⟩
      case measure => simp [intOf]; omega
    · obtain rfl : k = 6 := by omega
      go_wp2
      go_ret
      exact ⟨rfl, HBk.out⟩

set_option maxHeartbeats 8000000 in
set_option maxRecDepth 100000 in
theorem cmp_type2_3 (i1 : Int) (s1 : ByteArray) (k2 i2 : Int) (s2 : ByteArray) (w : World) (e2 : (k2 == 0) = false) (e3 : ((3 : Int) == k2) = false) (e4 : (k2 == 2) = false) (e5 : (k2 == 3) = false)
    (HR1 : Hid (∀ W, Calls Tryd.prog 10 #[.agg #[.int .i64 3, .int .i64 i1, .string s1]] W (RightPost true W)))
    (HR2 : Hid (∀ W, Calls Tryd.prog 10 #[.agg #[.int .i64 k2, .int .i64 i2, .string s2]] W (RightPost true W)))
    (HA : Hid (∀ (j : Nat) (W : World) (b : Nat), j < 6 → Below w.heap.size w W → Blk W b #[.int .i64 3, .int .i64 i1, .string s1, .int .i64 k2, .int .i64 i2, .string s2] 23 → Calls Tryd.prog 15 #[.int .i64 (7 + (j : Int)), .slice (some ⟨b, 0, none⟩) 2 2] W (ResPost 0 0 5 W))) :
    Calls Tryd.prog 5 #[.agg #[.int .i64 3, .int .i64 i1, .string s1], .agg #[.int .i64 k2, .int .i64 i2, .string s2]] w fun e w' => e = .returned (.bool true) ∧ Below w.heap.size w w' := by
  have e6 : ((3 : Int) != k2) = true := by rw [bne, e3]; rfl
  have HA0 : Hid (Blk ((w.alloc (.cells #[.int .i64 3, .int .i64 i1, .string s1] 23)).alloc (.cells #[.int .i64 k2, .int .i64 i2, .string s2] 23)) w.heap.size #[.int .i64 3, .int .i64 i1, .string s1] 23) := (Blk.new w _ 23).alloc _
  have HB0 : Hid (Blk ((w.alloc (.cells #[.int .i64 3, .int .i64 i1, .string s1] 23)).alloc (.cells #[.int .i64 k2, .int .i64 i2, .string s2] 23)) (w.heap.size + 1) #[.int .i64 k2, .int .i64 i2, .string s2] 23) := by
    have := Blk.new (w.alloc (.cells #[.int .i64 3, .int .i64 i1, .string s1] 23)) #[.int .i64 k2, .int .i64 i2, .string s2] 23
    simpa [Hid] using this
  have HB : Hid (Below w.heap.size w ((w.alloc (.cells #[.int .i64 3, .int .i64 i1, .string s1] 23)).alloc (.cells #[.int .i64 k2, .int .i64 i2, .string s2] 23))) := ((Below.refl _ _).alloc (Nat.le_refl _) _).alloc (by simp) _
  go_enter Tryd.func5, Tryd.ntmps5
  go_wp2_with fail
  refine (HR1.out _).mono ?_
  rintro e w1 ⟨rfl, hb1⟩
  have hA1 := HA0.out.below hb1
  have hB1 := HB0.out.below hb1
  have hc1 := HB.out.trans (hb1.mono HB.out.size)
  have hz1 := hc1.size
  have a0 := hA1.cell 0; have a1 := hA1.cell 1; have a2 := hA1.cell 2
  have b0 := hB1.cell 0; have b1 := hB1.cell 1; have b2 := hB1.cell 2
  simp only [List.getElem?_toArray, List.getElem?_cons_zero, List.getElem?_cons_succ] at a0 a1 a2 b0 b1 b2
  go_wp2_with fail
  refine (HR2.out _).mono ?_
  rintro e w2 ⟨rfl, hb2⟩
  have hA2 := hA1.below hb2
  have hB2 := hB1.below hb2
  have hc2 := hc1.trans (hb2.mono hc1.size)
  have hz2 := hc2.size
  have hlB2 := hB2.lt
  clear hA1 hB1 a0 a1 a2 b0 b1 b2 hb1 hb2
  go_wp2
  go_loopw [20] (fun q wr => ∃ k : Nat, k ≤ 6 ∧ q = .int .i64 k ∧ Below w.heap.size w wr ∧ Blk wr w.heap.size #[.int .i64 3, .int .i64 i1, .string s1] 23 ∧ Blk wr (w.heap.size + 1) #[.int .i64 k2, .int .i64 i2, .string s2] 23) (fun q _ => 6 - (intOf q).toNat)
  case atStart => exact ⟨0, by omega, rfl, hc2.alloc hz2 _, hA2.alloc _, hB2.alloc _⟩
  case round =>
    obtain ⟨k, hk, rfl, hb, hA, hB⟩ := hrel
    have hz := hb.size
    have HBk := Lib.hid hb
    by_cases hlt : k < 6
    · have hcall : Hid (∀ W b, Below w.heap.size w W → Blk W b #[.int .i64 3, .int .i64 i1, .string s1, .int .i64 k2, .int .i64 i2, .string s2] 23 → Calls Tryd.prog 15 #[.int .i64 (7 + (k : Int)), .slice (some ⟨b, 0, none⟩) 2 2] W (ResPost 0 0 5 W)) := fun W b hW h => HA.out k W b hlt hW h
      have a0 := hA.cell 0; have a1 := hA.cell 1; have a2 := hA.cell 2
      have b0 := hB.cell 0; have b1 := hB.cell 1; have b2 := hB.cell 2
      simp only [List.getElem?_toArray, List.getElem?_cons_zero, List.getElem?_cons_succ] at a0 a1 a2 b0 b1 b2
      have hC : Blk (wr.alloc (.cells #[.int .i64 3, .int .i64 i1, .string s1, .int .i64 k2, .int .i64 i2, .string s2] 23)) wr.heap.size #[.int .i64 3, .int .i64 i1, .string s1, .int .i64 k2, .int .i64 i2, .string s2] 23 := Blk.new _ _ _
      have HC := Lib.hid hC
      clear hC
      go_wp2_with fail
      refine (hcall.out _ _ (HBk.out.alloc hz _) HC.out).mono ?_
      rintro e w3 ⟨rfl, hb3⟩
      have hA3 := (hA.alloc (.cells #[.int .i64 3, .int .i64 i1, .string s1, .int .i64 k2, .int .i64 i2, .string s2] 23)).below hb3
      have hB3 := (hB.alloc (.cells #[.int .i64 3, .int .i64 i1, .string s1, .int .i64 k2, .int .i64 i2, .string s2] 23)).below hb3
      have hc3 := (hb.alloc hz (.cells #[.int .i64 3, .int .i64 i1, .string s1, .int .i64 k2, .int .i64 i2, .string s2] 23)).trans (hb3.mono (by simp <;> omega))
      have hz3 := hc3.size
      have hlA3 := hA3.lt
      have hlB3 := hB3.lt
      clear a0 a1 a2 b0 b1 b2 hb3 hA hB hb
      have a0 := hA3.cell 0; have a1 := hA3.cell 1; have a2 := hA3.cell 2
      have b0 := hB3.cell 0; have b1 := hB3.cell 1; have b2 := hB3.cell 2
      simp only [List.getElem?_toArray, List.getElem?_cons_zero, List.getElem?_cons_succ] at a0 a1 a2 b0 b1 b2
      go_wp2
      go_roundw
      case rel => exact ⟨k + 1, by omega, by go_num, hc3.alloc hz3 _, hA3.alloc _, hB3.alloc _⟩
      case measure => simp [intOf]; omega
    · obtain rfl : k = 6 := by omega
      go_wp2
      go_ret
      exact ⟨rfl, HBk.out⟩


end Go.Proofs.YtkobjlmnbfkgaaaDoor
