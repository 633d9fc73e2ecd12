/-
  The walk of the law DatumCompares at two values of one kind, no number, whose order is 0.
-/
import Derived.Test.YtkobjlmnbfkgaaaDoorLaw5Base
import Derived.Deep.RegionWith
namespace Go.Proofs.YtkobjlmnbfkgaaaDoor
open Go.RowKit

set_option maxHeartbeats 8000000 in
set_option maxRecDepth 100000 in
theorem cmp_same1 (k1 i1 : Int) (s1 : ByteArray) (i2 : Int) (s2 : ByteArray) (w : World) (e1 : (k1 == 0) = false) (e2 : (k1 == 2) = false) (e3 : (k1 == 3) = false)
    (HR1 : Hid (∀ W, Calls Tryd.prog 10 #[.agg #[.int .i64 k1, .int .i64 i1, .string s1]] W (RightPost true W)))
    (HR2 : Hid (∀ W, Calls Tryd.prog 10 #[.agg #[.int .i64 k1, .int .i64 i2, .string s2]] W (RightPost true W)))
    (HA : Hid (∀ (j : Nat) (W : World) (b : Nat), j < 6 → Below w.heap.size w W → Blk W b #[.int .i64 k1, .int .i64 i1, .string s1, .int .i64 k1, .int .i64 i2, .string s2] 23 → Calls Tryd.prog 15 #[.int .i64 (7 + (j : Int)), .slice (some ⟨b, 0, none⟩) 2 2] W (ResPost 1 (bitOf (holdsB (7 + (j : Int)) 0)) 0 W)))
    (HN : Hid (∀ W, Calls Tryd.prog 11 #[.agg #[.int .i64 k1, .int .i64 i1, .string s1], .agg #[.int .i64 k1, .int .i64 i2, .string s2]] W (IntPost 0 W))) :
    Calls Tryd.prog 5 #[.agg #[.int .i64 k1, .int .i64 i1, .string s1], .agg #[.int .i64 k1, .int .i64 i2, .string s2]] w fun e w' => e = .returned (.bool true) ∧ Below w.heap.size w w' := by
  have HA0 : Hid (Blk ((w.alloc (.cells #[.int .i64 k1, .int .i64 i1, .string s1] 23)).alloc (.cells #[.int .i64 k1, .int .i64 i2, .string s2] 23)) w.heap.size #[.int .i64 k1, .int .i64 i1, .string s1] 23) := (Blk.new w _ 23).alloc _
  have HB0 : Hid (Blk ((w.alloc (.cells #[.int .i64 k1, .int .i64 i1, .string s1] 23)).alloc (.cells #[.int .i64 k1, .int .i64 i2, .string s2] 23)) (w.heap.size + 1) #[.int .i64 k1, .int .i64 i2, .string s2] 23) := by
    have := Blk.new (w.alloc (.cells #[.int .i64 k1, .int .i64 i1, .string s1] 23)) #[.int .i64 k1, .int .i64 i2, .string s2] 23
    simpa [Hid] using this
  have HB : Hid (Below w.heap.size w ((w.alloc (.cells #[.int .i64 k1, .int .i64 i1, .string s1] 23)).alloc (.cells #[.int .i64 k1, .int .i64 i2, .string s2] 23))) := ((Below.refl _ _).alloc (Nat.le_refl _) _).alloc (by simp) _
  go_enter Tryd.func5, Tryd.ntmps5
  go_wp2_with fail
  refine (HR1.out _).mono ?_
  rintro e w1 ⟨rfl, hb1⟩
  have hA1 := HA0.out.below hb1
  have hB1 := HB0.out.below hb1
  have hc1 := HB.out.trans (hb1.mono HB.out.size)
  have hz1 := hc1.size
  have a0 := hA1.cell 0; have a1 := hA1.cell 1; have a2 := hA1.cell 2
  have b0 := hB1.cell 0; have b1 := hB1.cell 1; have b2 := hB1.cell 2
  simp only [List.getElem?_toArray, List.getElem?_cons_zero, List.getElem?_cons_succ] at a0 a1 a2 b0 b1 b2
  go_wp2_with fail
  refine (HR2.out _).mono ?_
  rintro e w2 ⟨rfl, hb2⟩
  have hA2 := hA1.below hb2
  have hB2 := hB1.below hb2
  have hc2 := hc1.trans (hb2.mono hc1.size)
  have hz2 := hc2.size
  have hlB2 := hB2.lt
  clear hA1 hB1 a0 a1 a2 b0 b1 b2 hb1 hb2
  go_wp2
  obtain ⟨g, hg⟩ : ∃ g, w2.heap.size = g := ⟨_, rfl⟩
  have hgB : w.heap.size + 1 < g := by omega
  have hG2 : Blk (w2.alloc (.cells #[.bool false, .bool false, .bool false, .bool false, .bool false, .bool false] 34)) g #[.bool false, .bool false, .bool false, .bool false, .bool false, .bool false] 34 := hg ▸ Blk.new w2 _ 34
  rw [hg]
  clear hg
  go_loopw [20] (fun q wr => ∃ k : Nat, k ≤ 6 ∧ q = .int .i64 k ∧ Below w.heap.size w wr ∧ Blk wr w.heap.size #[.int .i64 k1, .int .i64 i1, .string s1] 23 ∧ Blk wr (w.heap.size + 1) #[.int .i64 k1, .int .i64 i2, .string s2] 23 ∧ Blk wr g (gotB 0 k) 34) (fun q _ => 6 - (intOf q).toNat)
  case atStart => exact ⟨0, by omega, rfl, hc2.alloc hz2 _, hA2.alloc _, hB2.alloc _, hG2⟩
  case round =>
    obtain ⟨k, hk, rfl, hb, hA, hB, hG⟩ := hrel
    have hz := hb.size
    have HBk := Lib.hid hb
    rcases (show k = 0 ∨ k = 1 ∨ k = 2 ∨ k = 3 ∨ k = 4 ∨ k = 5 ∨ k = 6 by omega) with rfl | rfl | rfl | rfl | rfl | rfl | rfl
    · have hcall : Hid (∀ W b, Below w.heap.size w W → Blk W b #[.int .i64 k1, .int .i64 i1, .string s1, .int .i64 k1, .int .i64 i2, .string s2] 23 → Calls Tryd.prog 15 #[.int .i64 7, .slice (some ⟨b, 0, none⟩) 2 2] W (ResPost 1 1 0 W)) := fun W b hW h => HA.out 0 W b (by omega) hW h
      have a0 := hA.cell 0; have a1 := hA.cell 1; have a2 := hA.cell 2
      have b0 := hB.cell 0; have b1 := hB.cell 1; have b2 := hB.cell 2
      simp only [List.getElem?_toArray, List.getElem?_cons_zero, List.getElem?_cons_succ] at a0 a1 a2 b0 b1 b2
      have hC : Blk (wr.alloc (.cells #[.int .i64 k1, .int .i64 i1, .string s1, .int .i64 k1, .int .i64 i2, .string s2] 23)) wr.heap.size #[.int .i64 k1, .int .i64 i1, .string s1, .int .i64 k1, .int .i64 i2, .string s2] 23 := Blk.new _ _ _
      have HC := Lib.hid hC
      clear hC
      go_wp2_with fail
      refine (hcall.out _ _ (HBk.out.alloc hz _) HC.out).mono ?_
      rintro e w3 ⟨rfl, hb3⟩
      have hA3 := (hA.alloc (.cells #[.int .i64 k1, .int .i64 i1, .string s1, .int .i64 k1, .int .i64 i2, .string s2] 23)).below hb3
      have hB3 := (hB.alloc (.cells #[.int .i64 k1, .int .i64 i1, .string s1, .int .i64 k1, .int .i64 i2, .string s2] 23)).below hb3
      have hG3 : Blk w3 g #[.bool false, .bool false, .bool false, .bool false, .bool false, .bool false] 34 := (hG.alloc (.cells #[.int .i64 k1, .int .i64 i1, .string s1, .int .i64 k1, .int .i64 i2, .string s2] 23)).below hb3
      have hc3 := (hb.alloc hz (.cells #[.int .i64 k1, .int .i64 i1, .string s1, .int .i64 k1, .int .i64 i2, .string s2] 23)).trans (hb3.mono (by simp <;> omega))
      have hz3 := hc3.size
      have hlA3 := hA3.lt
      have hlB3 := hB3.lt
      have hlG3 := hG3.lt
      clear a0 a1 a2 b0 b1 b2 hb3 hA hB hb hG hcall
      have a0 := hA3.cell 0; have a1 := hA3.cell 1; have a2 := hA3.cell 2
      have b0 := hB3.cell 0; have b1 := hB3.cell 1; have b2 := hB3.cell 2
      simp only [List.getElem?_toArray, List.getElem?_cons_zero, List.getElem?_cons_succ] at a0 a1 a2 b0 b1 b2
      go_wp2_with fail
      refine (isOk_any 1 _).mono ?_
      rintro e w4 ⟨rfl, hb4⟩
      have hA4 := (hA3.alloc (.cells #[.int .i64 1, .int .i64 1, .string noText] 23)).below hb4
      have hB4 := (hB3.alloc (.cells #[.int .i64 1, .int .i64 1, .string noText] 23)).below hb4
      have hG4 := (hG3.alloc (.cells #[.int .i64 1, .int .i64 1, .string noText] 23)).below hb4
      have hc4 := (hc3.alloc hz3 (.cells #[.int .i64 1, .int .i64 1, .string noText] 23)).trans (hb4.mono (by simp <;> omega))
      have hlG4 := hG4.lt
      have hz4 := hc4.size
      have f0 := hG4.frozen 0
      have g0 : w4.cell? ⟨g, 0, none⟩ = some (.bool false) := hG4.cell 0
      clear a0 a1 a2 b0 b1 b2 hb4 hA3 hB3 hG3 hc3 hz3 hlA3 hlB3 hlG3
      have hA5 := hA4.setOther (b' := g) (by omega) 0 (.bool true)
      have hB5 := hB4.setOther (b' := g) (by omega) 0 (.bool true)
      have hG5 : Blk _ g #[.bool true, .bool false, .bool false, .bool false, .bool false, .bool false] 34 := hG4.set 0 (.bool true)
      have hc5 : Below w.heap.size w (w4.setCell ⟨g, 0, none⟩ (.bool true)) := hc4.setCell (by simp <;> omega) _
      have hz5 := hc5.size
      have a0 := hA4.cell 0; have a1 := hA4.cell 1; have a2 := hA4.cell 2
      have b0 := hB4.cell 0; have b1 := hB4.cell 1; have b2 := hB4.cell 2
      have c0 := hA5.cell 0; have c1 := hA5.cell 1; have c2 := hA5.cell 2
      have d0 := hB5.cell 0; have d1 := hB5.cell 1; have d2 := hB5.cell 2
      simp only [List.getElem?_toArray, List.getElem?_cons_zero, List.getElem?_cons_succ] at a0 a1 a2 b0 b1 b2 c0 c1 c2 d0 d1 d2
      have HA5 := Lib.hid hA5
      have HB5 := Lib.hid hB5
      have HG5 := Lib.hid hG5
      have HC5 := Lib.hid hc5
      clear hA4 hB4 hG4 hc4 hA5 hB5 hG5 hc5
      go_wp2_with fail
      refine (HN.out _).mono ?_
      rintro e w6 ⟨rfl, hb6⟩
      have hA6 := HA5.out.below hb6
      have hB6 := HB5.out.below hb6
      have hG6 := HG5.out.below hb6
      have hc6 := HC5.out.trans (hb6.mono HC5.out.size)
      have hz6 := hc6.size
      have hlG6 := hG6.lt
      clear a0 a1 a2 b0 b1 b2 c0 c1 c2 d0 d1 d2 hb6 HA5 HB5 HG5 HC5 f0 g0
      have g0 := hG6.cell 0; have g1 := hG6.cell 1; have g2 := hG6.cell 2; have g3 := hG6.cell 3; have g4 := hG6.cell 4; have g5 := hG6.cell 5
      simp only [List.getElem?_toArray, List.getElem?_cons_zero, List.getElem?_cons_succ] at g0 g1 g2 g3 g4 g5
      go_wp2
      go_region
      all_goals
        go_wp2
        go_roundw
        case rel => exact ⟨1, by omega, by go_num, by first | exact (hc6.alloc hz6 _) | exact (hc6.alloc hz6 _).drew | exact hc6.alloc hz6 _ |>.drew, (hA6.alloc _), (hB6.alloc _), (hG6.alloc _)⟩
        case measure => simp [intOf] <;> omega
    · have hcall : Hid (∀ W b, Below w.heap.size w W → Blk W b #[.int .i64 k1, .int .i64 i1, .string s1, .int .i64 k1, .int .i64 i2, .string s2] 23 → Calls Tryd.prog 15 #[.int .i64 8, .slice (some ⟨b, 0, none⟩) 2 2] W (ResPost 1 0 0 W)) := fun W b hW h => HA.out 1 W b (by omega) hW h
      have a0 := hA.cell 0; have a1 := hA.cell 1; have a2 := hA.cell 2
      have b0 := hB.cell 0; have b1 := hB.cell 1; have b2 := hB.cell 2
      simp only [List.getElem?_toArray, List.getElem?_cons_zero, List.getElem?_cons_succ] at a0 a1 a2 b0 b1 b2
      have hC : Blk (wr.alloc (.cells #[.int .i64 k1, .int .i64 i1, .string s1, .int .i64 k1, .int .i64 i2, .string s2] 23)) wr.heap.size #[.int .i64 k1, .int .i64 i1, .string s1, .int .i64 k1, .int .i64 i2, .string s2] 23 := Blk.new _ _ _
      have HC := Lib.hid hC
      clear hC
      go_wp2_with fail
      refine (hcall.out _ _ (HBk.out.alloc hz _) HC.out).mono ?_
      rintro e w3 ⟨rfl, hb3⟩
      have hA3 := (hA.alloc (.cells #[.int .i64 k1, .int .i64 i1, .string s1, .int .i64 k1, .int .i64 i2, .string s2] 23)).below hb3
      have hB3 := (hB.alloc (.cells #[.int .i64 k1, .int .i64 i1, .string s1, .int .i64 k1, .int .i64 i2, .string s2] 23)).below hb3
      have hG3 : Blk w3 g #[.bool true, .bool false, .bool false, .bool false, .bool false, .bool false] 34 := (hG.alloc (.cells #[.int .i64 k1, .int .i64 i1, .string s1, .int .i64 k1, .int .i64 i2, .string s2] 23)).below hb3
      have hc3 := (hb.alloc hz (.cells #[.int .i64 k1, .int .i64 i1, .string s1, .int .i64 k1, .int .i64 i2, .string s2] 23)).trans (hb3.mono (by simp <;> omega))
      have hz3 := hc3.size
      have hlA3 := hA3.lt
      have hlB3 := hB3.lt
      have hlG3 := hG3.lt
      clear a0 a1 a2 b0 b1 b2 hb3 hA hB hb hG hcall
      have a0 := hA3.cell 0; have a1 := hA3.cell 1; have a2 := hA3.cell 2
      have b0 := hB3.cell 0; have b1 := hB3.cell 1; have b2 := hB3.cell 2
      simp only [List.getElem?_toArray, List.getElem?_cons_zero, List.getElem?_cons_succ] at a0 a1 a2 b0 b1 b2
      go_wp2_with fail
      refine (isOk_any 0 _).mono ?_
      rintro e w4 ⟨rfl, hb4⟩
      have hA4 := (hA3.alloc (.cells #[.int .i64 1, .int .i64 0, .string noText] 23)).below hb4
      have hB4 := (hB3.alloc (.cells #[.int .i64 1, .int .i64 0, .string noText] 23)).below hb4
      have hG4 := (hG3.alloc (.cells #[.int .i64 1, .int .i64 0, .string noText] 23)).below hb4
      have hc4 := (hc3.alloc hz3 (.cells #[.int .i64 1, .int .i64 0, .string noText] 23)).trans (hb4.mono (by simp <;> omega))
      have hlG4 := hG4.lt
      have hz4 := hc4.size
      have f1 := hG4.frozen 1
      have g1 : w4.cell? ⟨g, 1, none⟩ = some (.bool false) := hG4.cell 1
      clear a0 a1 a2 b0 b1 b2 hb4 hA3 hB3 hG3 hc3 hz3 hlA3 hlB3 hlG3
      have hA5 := hA4.setOther (b' := g) (by omega) 1 (.bool false)
      have hB5 := hB4.setOther (b' := g) (by omega) 1 (.bool false)
      have hG5 : Blk _ g #[.bool true, .bool false, .bool false, .bool false, .bool false, .bool false] 34 := hG4.set 1 (.bool false)
      have hc5 : Below w.heap.size w (w4.setCell ⟨g, 1, none⟩ (.bool false)) := hc4.setCell (by simp <;> omega) _
      have hz5 := hc5.size
      have a0 := hA4.cell 0; have a1 := hA4.cell 1; have a2 := hA4.cell 2
      have b0 := hB4.cell 0; have b1 := hB4.cell 1; have b2 := hB4.cell 2
      have c0 := hA5.cell 0; have c1 := hA5.cell 1; have c2 := hA5.cell 2
      have d0 := hB5.cell 0; have d1 := hB5.cell 1; have d2 := hB5.cell 2
      simp only [List.getElem?_toArray, List.getElem?_cons_zero, List.getElem?_cons_succ] at a0 a1 a2 b0 b1 b2 c0 c1 c2 d0 d1 d2
      have HA5 := Lib.hid hA5
      have HB5 := Lib.hid hB5
      have HG5 := Lib.hid hG5
      have HC5 := Lib.hid hc5
      clear hA4 hB4 hG4 hc4 hA5 hB5 hG5 hc5
      go_wp2_with fail
      refine (HN.out _).mono ?_
      rintro e w6 ⟨rfl, hb6⟩
      have hA6 := HA5.out.below hb6
      have hB6 := HB5.out.below hb6
      have hG6 := HG5.out.below hb6
      have hc6 := HC5.out.trans (hb6.mono HC5.out.size)
      have hz6 := hc6.size
      have hlG6 := hG6.lt
      clear a0 a1 a2 b0 b1 b2 c0 c1 c2 d0 d1 d2 hb6 HA5 HB5 HG5 HC5 f1 g1
      have g0 := hG6.cell 0; have g1 := hG6.cell 1; have g2 := hG6.cell 2; have g3 := hG6.cell 3; have g4 := hG6.cell 4; have g5 := hG6.cell 5
      simp only [List.getElem?_toArray, List.getElem?_cons_zero, List.getElem?_cons_succ] at g0 g1 g2 g3 g4 g5
      go_wp2
      go_region
      all_goals
        go_wp2
        go_roundw
        case rel => exact ⟨2, by omega, by go_num, by first | exact (hc6.alloc hz6 _) | exact (hc6.alloc hz6 _).drew | exact hc6.alloc hz6 _ |>.drew, (hA6.alloc _), (hB6.alloc _), (hG6.alloc _)⟩
        case measure => simp [intOf] <;> omega
    · have hcall : Hid (∀ W b, Below w.heap.size w W → Blk W b #[.int .i64 k1, .int .i64 i1, .string s1, .int .i64 k1, .int .i64 i2, .string s2] 23 → Calls Tryd.prog 15 #[.int .i64 9, .slice (some ⟨b, 0, none⟩) 2 2] W (ResPost 1 0 0 W)) := fun W b hW h => HA.out 2 W b (by omega) hW h
      have a0 := hA.cell 0; have a1 := hA.cell 1; have a2 := hA.cell 2
      have b0 := hB.cell 0; have b1 := hB.cell 1; have b2 := hB.cell 2
      simp only [List.getElem?_toArray, List.getElem?_cons_zero, List.getElem?_cons_succ] at a0 a1 a2 b0 b1 b2
      have hC : Blk (wr.alloc (.cells #[.int .i64 k1, .int .i64 i1, .string s1, .int .i64 k1, .int .i64 i2, .string s2] 23)) wr.heap.size #[.int .i64 k1, .int .i64 i1, .string s1, .int .i64 k1, .int .i64 i2, .string s2] 23 := Blk.new _ _ _
      have HC := Lib.hid hC
      clear hC
      go_wp2_with fail
      refine (hcall.out _ _ (HBk.out.alloc hz _) HC.out).mono ?_
      rintro e w3 ⟨rfl, hb3⟩
      have hA3 := (hA.alloc (.cells #[.int .i64 k1, .int .i64 i1, .string s1, .int .i64 k1, .int .i64 i2, .string s2] 23)).below hb3
      have hB3 := (hB.alloc (.cells #[.int .i64 k1, .int .i64 i1, .string s1, .int .i64 k1, .int .i64 i2, .string s2] 23)).below hb3
      have hG3 : Blk w3 g #[.bool true, .bool false, .bool false, .bool false, .bool false, .bool false] 34 := (hG.alloc (.cells #[.int .i64 k1, .int .i64 i1, .string s1, .int .i64 k1, .int .i64 i2, .string s2] 23)).below hb3
      have hc3 := (hb.alloc hz (.cells #[.int .i64 k1, .int .i64 i1, .string s1, .int .i64 k1, .int .i64 i2, .string s2] 23)).trans (hb3.mono (by simp <;> omega))
      have hz3 := hc3.size
      have hlA3 := hA3.lt
      have hlB3 := hB3.lt
      have hlG3 := hG3.lt
      clear a0 a1 a2 b0 b1 b2 hb3 hA hB hb hG hcall
      have a0 := hA3.cell 0; have a1 := hA3.cell 1; have a2 := hA3.cell 2
      have b0 := hB3.cell 0; have b1 := hB3.cell 1; have b2 := hB3.cell 2
      simp only [List.getElem?_toArray, List.getElem?_cons_zero, List.getElem?_cons_succ] at a0 a1 a2 b0 b1 b2
      go_wp2_with fail
      refine (isOk_any 0 _).mono ?_
      rintro e w4 ⟨rfl, hb4⟩
      have hA4 := (hA3.alloc (.cells #[.int .i64 1, .int .i64 0, .string noText] 23)).below hb4
      have hB4 := (hB3.alloc (.cells #[.int .i64 1, .int .i64 0, .string noText] 23)).below hb4
      have hG4 := (hG3.alloc (.cells #[.int .i64 1, .int .i64 0, .string noText] 23)).below hb4
      have hc4 := (hc3.alloc hz3 (.cells #[.int .i64 1, .int .i64 0, .string noText] 23)).trans (hb4.mono (by simp <;> omega))
      have hlG4 := hG4.lt
      have hz4 := hc4.size
      have f2 := hG4.frozen 2
      have g2 : w4.cell? ⟨g, 2, none⟩ = some (.bool false) := hG4.cell 2
      clear a0 a1 a2 b0 b1 b2 hb4 hA3 hB3 hG3 hc3 hz3 hlA3 hlB3 hlG3
      have hA5 := hA4.setOther (b' := g) (by omega) 2 (.bool false)
      have hB5 := hB4.setOther (b' := g) (by omega) 2 (.bool false)
      have hG5 : Blk _ g #[.bool true, .bool false, .bool false, .bool false, .bool false, .bool false] 34 := hG4.set 2 (.bool false)
      have hc5 : Below w.heap.size w (w4.setCell ⟨g, 2, none⟩ (.bool false)) := hc4.setCell (by simp <;> omega) _
      have hz5 := hc5.size
      have a0 := hA4.cell 0; have a1 := hA4.cell 1; have a2 := hA4.cell 2
      have b0 := hB4.cell 0; have b1 := hB4.cell 1; have b2 := hB4.cell 2
      have c0 := hA5.cell 0; have c1 := hA5.cell 1; have c2 := hA5.cell 2
      have d0 := hB5.cell 0; have d1 := hB5.cell 1; have d2 := hB5.cell 2
      simp only [List.getElem?_toArray, List.getElem?_cons_zero, List.getElem?_cons_succ] at a0 a1 a2 b0 b1 b2 c0 c1 c2 d0 d1 d2
      have HA5 := Lib.hid hA5
      have HB5 := Lib.hid hB5
      have HG5 := Lib.hid hG5
      have HC5 := Lib.hid hc5
      clear hA4 hB4 hG4 hc4 hA5 hB5 hG5 hc5
      go_wp2_with fail
      refine (HN.out _).mono ?_
      rintro e w6 ⟨rfl, hb6⟩
      have hA6 := HA5.out.below hb6
      have hB6 := HB5.out.below hb6
      have hG6 := HG5.out.below hb6
      have hc6 := HC5.out.trans (hb6.mono HC5.out.size)
      have hz6 := hc6.size
      have hlG6 := hG6.lt
      clear a0 a1 a2 b0 b1 b2 c0 c1 c2 d0 d1 d2 hb6 HA5 HB5 HG5 HC5 f2 g2
      have g0 := hG6.cell 0; have g1 := hG6.cell 1; have g2 := hG6.cell 2; have g3 := hG6.cell 3; have g4 := hG6.cell 4; have g5 := hG6.cell 5
      simp only [List.getElem?_toArray, List.getElem?_cons_zero, List.getElem?_cons_succ] at g0 g1 g2 g3 g4 g5
      go_wp2
      go_region
      all_goals
        go_wp2
        go_roundw
        case rel => exact ⟨3, by omega, by go_num, by first | exact (hc6.alloc hz6 _) | exact (hc6.alloc hz6 _).drew | exact hc6.alloc hz6 _ |>.drew, (hA6.alloc _), (hB6.alloc _), (hG6.alloc _)⟩
        case measure => simp [intOf] <;> omega
    · have hcall : Hid (∀ W b, Below w.heap.size w W → Blk W b #[.int .i64 k1, .int .i64 i1, .string s1, .int .i64 k1, .int .i64 i2, .string s2] 23 → Calls Tryd.prog 15 #[.int .i64 10, .slice (some ⟨b, 0, none⟩) 2 2] W (ResPost 1 1 0 W)) := fun W b hW h => HA.out 3 W b (by omega) hW h
      have a0 := hA.cell 0; have a1 := hA.cell 1; have a2 := hA.cell 2
      have b0 := hB.cell 0; have b1 := hB.cell 1; have b2 := hB.cell 2
      simp only [List.getElem?_toArray, List.getElem?_cons_zero, List.getElem?_cons_succ] at a0 a1 a2 b0 b1 b2
      have hC : Blk (wr.alloc (.cells #[.int .i64 k1, .int .i64 i1, .string s1, .int .i64 k1, .int .i64 i2, .string s2] 23)) wr.heap.size #[.int .i64 k1, .int .i64 i1, .string s1, .int .i64 k1, .int .i64 i2, .string s2] 23 := Blk.new _ _ _
      have HC := Lib.hid hC
      clear hC
      go_wp2_with fail
      refine (hcall.out _ _ (HBk.out.alloc hz _) HC.out).mono ?_
      rintro e w3 ⟨rfl, hb3⟩
      have hA3 := (hA.alloc (.cells #[.int .i64 k1, .int .i64 i1, .string s1, .int .i64 k1, .int .i64 i2, .string s2] 23)).below hb3
      have hB3 := (hB.alloc (.cells #[.int .i64 k1, .int .i64 i1, .string s1, .int .i64 k1, .int .i64 i2, .string s2] 23)).below hb3
      have hG3 : Blk w3 g #[.bool true, .bool false, .bool false, .bool false, .bool false, .bool false] 34 := (hG.alloc (.cells #[.int .i64 k1, .int .i64 i1, .string s1, .int .i64 k1, .int .i64 i2, .string s2] 23)).below hb3
      have hc3 := (hb.alloc hz (.cells #[.int .i64 k1, .int .i64 i1, .string s1, .int .i64 k1, .int .i64 i2, .string s2] 23)).trans (hb3.mono (by simp <;> omega))
      have hz3 := hc3.size
      have hlA3 := hA3.lt
      have hlB3 := hB3.lt
      have hlG3 := hG3.lt
      clear a0 a1 a2 b0 b1 b2 hb3 hA hB hb hG hcall
      have a0 := hA3.cell 0; have a1 := hA3.cell 1; have a2 := hA3.cell 2
      have b0 := hB3.cell 0; have b1 := hB3.cell 1; have b2 := hB3.cell 2
      simp only [List.getElem?_toArray, List.getElem?_cons_zero, List.getElem?_cons_succ] at a0 a1 a2 b0 b1 b2
      go_wp2_with fail
      refine (isOk_any 1 _).mono ?_
      rintro e w4 ⟨rfl, hb4⟩
      have hA4 := (hA3.alloc (.cells #[.int .i64 1, .int .i64 1, .string noText] 23)).below hb4
      have hB4 := (hB3.alloc (.cells #[.int .i64 1, .int .i64 1, .string noText] 23)).below hb4
      have hG4 := (hG3.alloc (.cells #[.int .i64 1, .int .i64 1, .string noText] 23)).below hb4
      have hc4 := (hc3.alloc hz3 (.cells #[.int .i64 1, .int .i64 1, .string noText] 23)).trans (hb4.mono (by simp <;> omega))
      have hlG4 := hG4.lt
      have hz4 := hc4.size
      have f3 := hG4.frozen 3
      have g3 : w4.cell? ⟨g, 3, none⟩ = some (.bool false) := hG4.cell 3
      clear a0 a1 a2 b0 b1 b2 hb4 hA3 hB3 hG3 hc3 hz3 hlA3 hlB3 hlG3
      have hA5 := hA4.setOther (b' := g) (by omega) 3 (.bool true)
      have hB5 := hB4.setOther (b' := g) (by omega) 3 (.bool true)
      have hG5 : Blk _ g #[.bool true, .bool false, .bool false, .bool true, .bool false, .bool false] 34 := hG4.set 3 (.bool true)
      have hc5 : Below w.heap.size w (w4.setCell ⟨g, 3, none⟩ (.bool true)) := hc4.setCell (by simp <;> omega) _
      have hz5 := hc5.size
      have a0 := hA4.cell 0; have a1 := hA4.cell 1; have a2 := hA4.cell 2
      have b0 := hB4.cell 0; have b1 := hB4.cell 1; have b2 := hB4.cell 2
      have c0 := hA5.cell 0; have c1 := hA5.cell 1; have c2 := hA5.cell 2
      have d0 := hB5.cell 0; have d1 := hB5.cell 1; have d2 := hB5.cell 2
      simp only [List.getElem?_toArray, List.getElem?_cons_zero, List.getElem?_cons_succ] at a0 a1 a2 b0 b1 b2 c0 c1 c2 d0 d1 d2
      have HA5 := Lib.hid hA5
      have HB5 := Lib.hid hB5
      have HG5 := Lib.hid hG5
      have HC5 := Lib.hid hc5
      clear hA4 hB4 hG4 hc4 hA5 hB5 hG5 hc5
      go_wp2_with fail
      refine (HN.out _).mono ?_
      rintro e w6 ⟨rfl, hb6⟩
      have hA6 := HA5.out.below hb6
      have hB6 := HB5.out.below hb6
      have hG6 := HG5.out.below hb6
      have hc6 := HC5.out.trans (hb6.mono HC5.out.size)
      have hz6 := hc6.size
      have hlG6 := hG6.lt
      clear a0 a1 a2 b0 b1 b2 c0 c1 c2 d0 d1 d2 hb6 HA5 HB5 HG5 HC5 f3 g3
      have g0 := hG6.cell 0; have g1 := hG6.cell 1; have g2 := hG6.cell 2; have g3 := hG6.cell 3; have g4 := hG6.cell 4; have g5 := hG6.cell 5
      simp only [List.getElem?_toArray, List.getElem?_cons_zero, List.getElem?_cons_succ] at g0 g1 g2 g3 g4 g5
      go_wp2
      go_region
      all_goals
        go_wp2
        go_roundw
        case rel => exact ⟨4, by omega, by go_num, by first | exact (hc6.alloc hz6 _) | exact (hc6.alloc hz6 _).drew | exact hc6.alloc hz6 _ |>.drew, (hA6.alloc _), (hB6.alloc _), (hG6.alloc _)⟩
        case measure => simp [intOf] <;> omega
    · have hcall : Hid (∀ W b, Below w.heap.size w W → Blk W b #[.int .i64 k1, .int .i64 i1, .string s1, .int .i64 k1, .int .i64 i2, .string s2] 23 → Calls Tryd.prog 15 #[.int .i64 11, .slice (some ⟨b, 0, none⟩) 2 2] W (ResPost 1 0 0 W)) := fun W b hW h => HA.out 4 W b (by omega) hW h
      have a0 := hA.cell 0; have a1 := hA.cell 1; have a2 := hA.cell 2
      have b0 := hB.cell 0; have b1 := hB.cell 1; have b2 := hB.cell 2
      simp only [List.getElem?_toArray, List.getElem?_cons_zero, List.getElem?_cons_succ] at a0 a1 a2 b0 b1 b2
      have hC : Blk (wr.alloc (.cells #[.int .i64 k1, .int .i64 i1, .string s1, .int .i64 k1, .int .i64 i2, .string s2] 23)) wr.heap.size #[.int .i64 k1, .int .i64 i1, .string s1, .int .i64 k1, .int .i64 i2, .string s2] 23 := Blk.new _ _ _
      have HC := Lib.hid hC
      clear hC
      go_wp2_with fail
      refine (hcall.out _ _ (HBk.out.alloc hz _) HC.out).mono ?_
      rintro e w3 ⟨rfl, hb3⟩
      have hA3 := (hA.alloc (.cells #[.int .i64 k1, .int .i64 i1, .string s1, .int .i64 k1, .int .i64 i2, .string s2] 23)).below hb3
      have hB3 := (hB.alloc (.cells #[.int .i64 k1, .int .i64 i1, .string s1, .int .i64 k1, .int .i64 i2, .string s2] 23)).below hb3
      have hG3 : Blk w3 g #[.bool true, .bool false, .bool false, .bool true, .bool false, .bool false] 34 := (hG.alloc (.cells #[.int .i64 k1, .int .i64 i1, .string s1, .int .i64 k1, .int .i64 i2, .string s2] 23)).below hb3
      have hc3 := (hb.alloc hz (.cells #[.int .i64 k1, .int .i64 i1, .string s1, .int .i64 k1, .int .i64 i2, .string s2] 23)).trans (hb3.mono (by simp <;> omega))
      have hz3 := hc3.size
      have hlA3 := hA3.lt
      have hlB3 := hB3.lt
      have hlG3 := hG3.lt
      clear a0 a1 a2 b0 b1 b2 hb3 hA hB hb hG hcall
      have a0 := hA3.cell 0; have a1 := hA3.cell 1; have a2 := hA3.cell 2
      have b0 := hB3.cell 0; have b1 := hB3.cell 1; have b2 := hB3.cell 2
      simp only [List.getElem?_toArray, List.getElem?_cons_zero, List.getElem?_cons_succ] at a0 a1 a2 b0 b1 b2
      go_wp2_with fail
      refine (isOk_any 0 _).mono ?_
      rintro e w4 ⟨rfl, hb4⟩
      have hA4 := (hA3.alloc (.cells #[.int .i64 1, .int .i64 0, .string noText] 23)).below hb4
      have hB4 := (hB3.alloc (.cells #[.int .i64 1, .int .i64 0, .string noText] 23)).below hb4
      have hG4 := (hG3.alloc (.cells #[.int .i64 1, .int .i64 0, .string noText] 23)).below hb4
      have hc4 := (hc3.alloc hz3 (.cells #[.int .i64 1, .int .i64 0, .string noText] 23)).trans (hb4.mono (by simp <;> omega))
      have hlG4 := hG4.lt
      have hz4 := hc4.size
      have f4 := hG4.frozen 4
      have g4 : w4.cell? ⟨g, 4, none⟩ = some (.bool false) := hG4.cell 4
      clear a0 a1 a2 b0 b1 b2 hb4 hA3 hB3 hG3 hc3 hz3 hlA3 hlB3 hlG3
      have hA5 := hA4.setOther (b' := g) (by omega) 4 (.bool false)
      have hB5 := hB4.setOther (b' := g) (by omega) 4 (.bool false)
      have hG5 : Blk _ g #[.bool true, .bool false, .bool false, .bool true, .bool false, .bool false] 34 := hG4.set 4 (.bool false)
      have hc5 : Below w.heap.size w (w4.setCell ⟨g, 4, none⟩ (.bool false)) := hc4.setCell (by simp <;> omega) _
      have hz5 := hc5.size
      have a0 := hA4.cell 0; have a1 := hA4.cell 1; have a2 := hA4.cell 2
      have b0 := hB4.cell 0; have b1 := hB4.cell 1; have b2 := hB4.cell 2
      have c0 := hA5.cell 0; have c1 := hA5.cell 1; have c2 := hA5.cell 2
      have d0 := hB5.cell 0; have d1 := hB5.cell 1; have d2 := hB5.cell 2
      simp only [List.getElem?_toArray, List.getElem?_cons_zero, List.getElem?_cons_succ] at a0 a1 a2 b0 b1 b2 c0 c1 c2 d0 d1 d2
      have HA5 := Lib.hid hA5
      have HB5 := Lib.hid hB5
      have HG5 := Lib.hid hG5
      have HC5 := Lib.hid hc5
      clear hA4 hB4 hG4 hc4 hA5 hB5 hG5 hc5
      go_wp2_with fail
      refine (HN.out _).mono ?_
      rintro e w6 ⟨rfl, hb6⟩
      have hA6 := HA5.out.below hb6
      have hB6 := HB5.out.below hb6
      have hG6 := HG5.out.below hb6
      have hc6 := HC5.out.trans (hb6.mono HC5.out.size)
      have hz6 := hc6.size
      have hlG6 := hG6.lt
      clear a0 a1 a2 b0 b1 b2 c0 c1 c2 d0 d1 d2 hb6 HA5 HB5 HG5 HC5 f4 g4
      have g0 := hG6.cell 0; have g1 := hG6.cell 1; have g2 := hG6.cell 2; have g3 := hG6.cell 3; have g4 := hG6.cell 4; have g5 := hG6.cell 5
      simp only [List.getElem?_toArray, List.getElem?_cons_zero, List.getElem?_cons_succ] at g0 g1 g2 g3 g4 g5
      go_wp2
      go_region
      all_goals
        go_wp2
        go_roundw
        case rel => exact ⟨5, by omega, by go_num, by first | exact (hc6.alloc hz6 _) | exact (hc6.alloc hz6 _).drew | exact hc6.alloc hz6 _ |>.drew, (hA6.alloc _), (hB6.alloc _), (hG6.alloc _)⟩
        case measure => simp [intOf] <;> omega
    · have hcall : Hid (∀ W b, Below w.heap.size w W → Blk W b #[.int .i64 k1, .int .i64 i1, .string s1, .int .i64 k1, .int .i64 i2, .string s2] 23 → Calls Tryd.prog 15 #[.int .i64 12, .slice (some ⟨b, 0, none⟩) 2 2] W (ResPost 1 1 0 W)) := fun W b hW h => HA.out 5 W b (by omega) hW h
      have a0 := hA.cell 0; have a1 := hA.cell 1; have a2 := hA.cell 2
      have b0 := hB.cell 0; have b1 := hB.cell 1; have b2 := hB.cell 2
      simp only [List.getElem?_toArray, List.getElem?_cons_zero, List.getElem?_cons_succ] at a0 a1 a2 b0 b1 b2
      have hC : Blk (wr.alloc (.cells #[.int .i64 k1, .int .i64 i1, .string s1, .int .i64 k1, .int .i64 i2, .string s2] 23)) wr.heap.size #[.int .i64 k1, .int .i64 i1, .string s1, .int .i64 k1, .int .i64 i2, .string s2] 23 := Blk.new _ _ _
      have HC := Lib.hid hC
      clear hC
      go_wp2_with fail
      refine (hcall.out _ _ (HBk.out.alloc hz _) HC.out).mono ?_
      rintro e w3 ⟨rfl, hb3⟩
      have hA3 := (hA.alloc (.cells #[.int .i64 k1, .int .i64 i1, .string s1, .int .i64 k1, .int .i64 i2, .string s2] 23)).below hb3
      have hB3 := (hB.alloc (.cells #[.int .i64 k1, .int .i64 i1, .string s1, .int .i64 k1, .int .i64 i2, .string s2] 23)).below hb3
      have hG3 : Blk w3 g #[.bool true, .bool false, .bool false, .bool true, .bool false, .bool false] 34 := (hG.alloc (.cells #[.int .i64 k1, .int .i64 i1, .string s1, .int .i64 k1, .int .i64 i2, .string s2] 23)).below hb3
      have hc3 := (hb.alloc hz (.cells #[.int .i64 k1, .int .i64 i1, .string s1, .int .i64 k1, .int .i64 i2, .string s2] 23)).trans (hb3.mono (by simp <;> omega))
      have hz3 := hc3.size
      have hlA3 := hA3.lt
      have hlB3 := hB3.lt
      have hlG3 := hG3.lt
      clear a0 a1 a2 b0 b1 b2 hb3 hA hB hb hG hcall
      have a0 := hA3.cell 0; have a1 := hA3.cell 1; have a2 := hA3.cell 2
      have b0 := hB3.cell 0; have b1 := hB3.cell 1; have b2 := hB3.cell 2
      simp only [List.getElem?_toArray, List.getElem?_cons_zero, List.getElem?_cons_succ] at a0 a1 a2 b0 b1 b2
      go_wp2_with fail
      refine (isOk_any 1 _).mono ?_
      rintro e w4 ⟨rfl, hb4⟩
      have hA4 := (hA3.alloc (.cells #[.int .i64 1, .int .i64 1, .string noText] 23)).below hb4
      have hB4 := (hB3.alloc (.cells #[.int .i64 1, .int .i64 1, .string noText] 23)).below hb4
      have hG4 := (hG3.alloc (.cells #[.int .i64 1, .int .i64 1, .string noText] 23)).below hb4
      have hc4 := (hc3.alloc hz3 (.cells #[.int .i64 1, .int .i64 1, .string noText] 23)).trans (hb4.mono (by simp <;> omega))
      have hlG4 := hG4.lt
      have hz4 := hc4.size
      have f5 := hG4.frozen 5
      have g5 : w4.cell? ⟨g, 5, none⟩ = some (.bool false) := hG4.cell 5
      clear a0 a1 a2 b0 b1 b2 hb4 hA3 hB3 hG3 hc3 hz3 hlA3 hlB3 hlG3
      have hA5 := hA4.setOther (b' := g) (by omega) 5 (.bool true)
      have hB5 := hB4.setOther (b' := g) (by omega) 5 (.bool true)
      have hG5 : Blk _ g #[.bool true, .bool false, .bool false, .bool true, .bool false, .bool true] 34 := hG4.set 5 (.bool true)
      have hc5 : Below w.heap.size w (w4.setCell ⟨g, 5, none⟩ (.bool true)) := hc4.setCell (by simp <;> omega) _
      have hz5 := hc5.size
      have a0 := hA4.cell 0; have a1 := hA4.cell 1; have a2 := hA4.cell 2
      have b0 := hB4.cell 0; have b1 := hB4.cell 1; have b2 := hB4.cell 2
      have c0 := hA5.cell 0; have c1 := hA5.cell 1; have c2 := hA5.cell 2
      have d0 := hB5.cell 0; have d1 := hB5.cell 1; have d2 := hB5.cell 2
      simp only [List.getElem?_toArray, List.getElem?_cons_zero, List.getElem?_cons_succ] at a0 a1 a2 b0 b1 b2 c0 c1 c2 d0 d1 d2
      have HA5 := Lib.hid hA5
      have HB5 := Lib.hid hB5
      have HG5 := Lib.hid hG5
      have HC5 := Lib.hid hc5
      clear hA4 hB4 hG4 hc4 hA5 hB5 hG5 hc5
      go_wp2_with fail
      refine (HN.out _).mono ?_
      rintro e w6 ⟨rfl, hb6⟩
      have hA6 := HA5.out.below hb6
      have hB6 := HB5.out.below hb6
      have hG6 := HG5.out.below hb6
      have hc6 := HC5.out.trans (hb6.mono HC5.out.size)
      have hz6 := hc6.size
      have hlG6 := hG6.lt
      clear a0 a1 a2 b0 b1 b2 c0 c1 c2 d0 d1 d2 hb6 HA5 HB5 HG5 HC5 f5 g5
      have g0 := hG6.cell 0; have g1 := hG6.cell 1; have g2 := hG6.cell 2; have g3 := hG6.cell 3; have g4 := hG6.cell 4; have g5 := hG6.cell 5
      simp only [List.getElem?_toArray, List.getElem?_cons_zero, List.getElem?_cons_succ] at g0 g1 g2 g3 g4 g5
      go_wp2
      go_region
      all_goals
        go_wp2
        go_roundw
        case rel => exact ⟨6, by omega, by go_num, by first | exact (hc6.alloc hz6 _) | exact (hc6.alloc hz6 _).drew | exact hc6.alloc hz6 _ |>.drew, (hA6.alloc _), (hB6.alloc _), (hG6.alloc _)⟩
        case measure => simp [intOf] <;> omega
    · go_wp2
      go_ret
      exact ⟨rfl, HBk.out⟩

end Go.Proofs.YtkobjlmnbfkgaaaDoor
