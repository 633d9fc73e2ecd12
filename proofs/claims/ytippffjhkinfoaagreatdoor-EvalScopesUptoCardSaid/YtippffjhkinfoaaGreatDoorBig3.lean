/-
  The reference's whole numbers: differences of amounts.
-/
import Derived.Test.YtippffjhkinfoaaGreatDoorBig2
namespace Go.Proofs.YtippffjhkinfoaaGreatDoor
open Go.RowKit

set_option maxRecDepth 100000 in
set_option maxHeartbeats 4000000 in
theorem less_any (m1 m2 : Bool) (v1 v2 : Value) (L1 L2 : List Int) (w : World) (h1 : DigV w v1 L1) (h2 : DigV w v2 L2) (n1 : DigOk L1) (n2 : DigOk L2) (l1 : L1.length ≤ 5000) (l2 : L2.length ≤ L1.length) (hv : valD L2 ≤ valD L1) :
    Calls Tryz.prog 95 #[.agg #[.bool m1, v1], .agg #[.bool m2, v2]] w fun e w' => ∃ v' L, e = .returned (.agg #[.bool false, v']) ∧ DigB w' w.heap.size v' L ∧ Norm L ∧ valD L = valD L1 - valD L2 ∧ Below w.heap.size w w' := by
  obtain ⟨i0, hi, hz0, hz1, hz2⟩ := info_parts info83
  have HI := Lib.hid hi
  have HZ0 := Lib.hid hz0
  have HZ1 := Lib.hid hz1
  have HZ2 := Lib.hid hz2
  clear hi hz0 hz1 hz2
  obtain ⟨A1, c1, rfl, hc1, HA1⟩ := DigV.open h1
  obtain ⟨A2, c2, rfl, hc2, HA2⟩ := DigV.open h2
  have N1 := Lib.hid n1
  have N2 := Lib.hid n2
  have HVV := Lib.hid hv
  clear h1 h2 n1 n2 hv
  go_enter Tryz.func95, Tryz.ntmps95
  go_wp2_with fail
  have hb4 := ((((Below.refl w.heap.size w).alloc (Nat.le_refl _) (Obj.cells #[Value.bool m1, Value.slice A1 L1.length c1] 73)).alloc (by simp) (Obj.cells #[Value.bool m2, Value.slice A2 L2.length c2] 73)).alloc (by simp; omega) (Obj.cells #[Value.bool false, Value.slice none 0 0] 73)).alloc (by simp; omega) (Obj.cells #[Value.bool false, Value.slice none 0 0] 73)
  have s1 := (((Blk.new w #[Value.bool m1, Value.slice A1 L1.length c1] 73).alloc (Obj.cells #[Value.bool m2, Value.slice A2 L2.length c2] 73)).alloc (Obj.cells #[Value.bool false, Value.slice none 0 0] 73)).alloc (Obj.cells #[Value.bool false, Value.slice none 0 0] 73)
  have s2 := ((Blk.atB (w := w.alloc (Obj.cells #[Value.bool m1, Value.slice A1 L1.length c1] 73)) (b := w.heap.size + 1) (cs := #[Value.bool m2, Value.slice A2 L2.length c2]) (t := 73) (by simp)).alloc (Obj.cells #[Value.bool false, Value.slice none 0 0] 73)).alloc (Obj.cells #[Value.bool false, Value.slice none 0 0] 73)
  have s3 := (Blk.atB (w := (w.alloc (Obj.cells #[Value.bool m1, Value.slice A1 L1.length c1] 73)).alloc (Obj.cells #[Value.bool m2, Value.slice A2 L2.length c2] 73)) (b := w.heap.size + 1 + 1) (cs := #[Value.bool false, Value.slice none 0 0]) (t := 73) (by simp)).alloc (Obj.cells #[Value.bool false, Value.slice none 0 0] 73)
  have s4 := Blk.atB (w := ((w.alloc (Obj.cells #[Value.bool m1, Value.slice A1 L1.length c1] 73)).alloc (Obj.cells #[Value.bool m2, Value.slice A2 L2.length c2] 73)).alloc (Obj.cells #[Value.bool false, Value.slice none 0 0] 73)) (b := w.heap.size + 1 + 1 + 1) (cs := #[Value.bool false, Value.slice none 0 0]) (t := 73) (by simp)
  go_loopw [6, 14] (fun q n wr => ∃ (L : List Int) (c : Int), q = .int .u64 c ∧ n = .int .i64 (L.length : Int) ∧ Hid (SubInv L1 L2 L c) ∧ L.length ≤ L1.length ∧ Below w.heap.size w wr ∧ Blk wr w.heap.size #[Value.bool m1, Value.slice A1 L1.length c1] 73 ∧ Blk wr (w.heap.size + 1) #[Value.bool m2, Value.slice A2 L2.length c2] 73 ∧ Blk wr (w.heap.size + 1 + 1) #[.bool false, .slice none 0 0] 73 ∧ ∃ sl, Blk wr (w.heap.size + 1 + 1 + 1) #[.bool false, sl] 73 ∧ Hid (OwnDig wr (w.heap.size + 1 + 1 + 1 + 1) sl L)) (fun q n _ => L1.length - (intOf n).toNat)
  case atStart => exact ⟨[], 0, rfl, rfl, SubInv.start _ _, by simp, hb4, s1, s2, s3, _, s4, OwnG.nil 83 _ _⟩
  case round =>
    obtain ⟨L, c, rfl, rfl, hinv, hL, hb, b1, b2, bR, sl, bO, HO⟩ := hrel
    clear s1 s2 s3 s4 hb4
    have hz := bO.lt
    have hcc : 0 ≤ c ∧ c ≤ 1 := ⟨hinv.out.2.1, hinv.out.2.2.1⟩
    have x0 := b1.cell 0
    have x1 := b1.cell 1
    have y0 := b2.cell 0
    have y1 := b2.cell 1
    have c0 := bO.cell 0
    have c1' := bO.cell 1
    simp only [List.getElem?_toArray, List.getElem?_cons_zero, List.getElem?_cons_succ] at x0 x1 y0 y1 c0 c1'
    by_cases hk1 : L.length < L1.length
    · obtain ⟨q1, o1, rfl, hq1, hat1⟩ := HA1.out.resolve_left (by rintro rfl; simp at hk1)
      have hd1 := N1.out L1[L.length] (List.getElem_mem hk1)
      have HG1 := Lib.hid (get_some L1 L.length L1[L.length] (List.getElem?_eq_getElem hk1))
      have e1 := (hb.cell (p := ⟨q1, o1 + L.length, none⟩) hq1).trans (hat1 L.length L1[L.length] (List.getElem?_eq_getElem hk1))
      clear hat1
      revert hd1 HG1 e1
      generalize L1[L.length] = x
      intro hd1 HG1 e1
      by_cases hk2 : L.length < L2.length
      · obtain ⟨q2, o2, rfl, hq2, hat2⟩ := HA2.out.resolve_left (by rintro rfl; simp at hk2)
        have hd2 := N2.out L2[L.length] (List.getElem_mem hk2)
        have HG2 := Lib.hid (get_some L2 L.length L2[L.length] (List.getElem?_eq_getElem hk2))
        have e2 := (hb.cell (p := ⟨q2, o2 + L.length, none⟩) hq2).trans (hat2 L.length L2[L.length] (List.getElem?_eq_getElem hk2))
        clear hat2
        revert hd2 HG2 e2
        generalize L2[L.length] = y
        intro hd2 HG2 e2
        by_cases hlt : x < c + y
        · skip
          have hnext : Hid (SubInv L1 L2 (L ++ [x + 1000000 - (c + y)]) 1) := by
            have h := hinv.out.step N1.out N2.out x (c + y) HG1.out.symm (by rw [HG2.out]; try omega)
            rw [if_pos hlt, if_pos hlt] at h
            exact h
          have hs0 : 0 ≤ x + 1000000 - (c + y) ∧ x + 1000000 - (c + y) < 1000000 := by omega
          have HO7 := Lib.hid (HO.out.alloc (.cells #[.int .u64 (x + 1000000 - (c + y))] 83))
          have HV7 := Lib.hid (digV_at wr wr.heap.size (x + 1000000 - (c + y)) rfl)
          have hz7 : w.heap.size + 1 + 1 + 1 + 1 ≤ (wr.alloc (.cells #[.int .u64 (x + 1000000 - (c + y))] 83)).heap.size := by have := hb.size; simp; omega
          have hb7 := hb.alloc hb.size (.cells #[.int .u64 (x + 1000000 - (c + y))] 83)
          go_wp2_with (at_builtin; refine wpList_append_g hkD (by decide) 71 83 i0 _ 8 Tryz.underlying71 HI.out HZ0.out HZ1.out HZ2.out rfl _ rfl (.tmp 38) (.tmp 42) rfl (w.heap.size + 1 + 1 + 1 + 1) _ _ L [x + 1000000 - (c + y)] rfl rfl HO7.out HV7.out (one_dig _) (by unfold maxLen; simp only [List.length_singleton]; omega) (by simp only [List.length_singleton]; omega) hz7 ?_; intro v8 w8 ho8 hg8; obtain ⟨A8, c8, rfl⟩ := own_shape ho8; have bb1 : Blk w8 w.heap.size _ 73 := (hg8.block w.heap.size (by simp; omega) (fun e => absurd (OwnG.lt HO7.out _ e.symm).1 (by omega))).trans (b1.alloc _); have bb2 : Blk w8 (w.heap.size + 1) _ 73 := (hg8.block (w.heap.size + 1) (by simp; omega) (fun e => absurd (OwnG.lt HO7.out _ e.symm).1 (by omega))).trans (b2.alloc _); have bbR : Blk w8 (w.heap.size + 1 + 1) _ 73 := (hg8.block (w.heap.size + 1 + 1) (by simp; omega) (fun e => absurd (OwnG.lt HO7.out _ e.symm).1 (by omega))).trans (bR.alloc _); have bbO : Blk w8 (w.heap.size + 1 + 1 + 1) _ 73 := (hg8.block (w.heap.size + 1 + 1 + 1) (by simp; omega) (fun e => absurd (OwnG.lt HO7.out _ e.symm).1 (by omega))).trans (bO.alloc _); have d1 := bbO.cell 1; have g1 := bbO.frozen 1; simp only [List.getElem?_toArray, List.getElem?_cons_zero, List.getElem?_cons_succ] at d1)
          refine ⟨⟨L ++ [x + 1000000 - (c + y)], 1, rfl, by simp, hnext, by simp; omega, ((hb7.trans ((OwnG.grown HO7.out hz7 hg8).mono (by omega))).setCell (by simp; omega) _), bb1.setOther (by omega) _ _, bb2.setOther (by omega) _ _, bbR.setOther (by omega) _ _, _, by simpa using bbO.set 1 _, OwnDig.setOther (by simpa using ho8) (by omega) _ _⟩, ?_⟩
          simp [intOf]
          omega
        · skip
          have hnext : Hid (SubInv L1 L2 (L ++ [x - (c + y)]) 0) := by
            have h := hinv.out.step N1.out N2.out x (c + y) HG1.out.symm (by rw [HG2.out]; try omega)
            rw [if_neg hlt, if_neg hlt] at h
            exact h
          have hs0 : 0 ≤ x - (c + y) ∧ x - (c + y) < 1000000 := by omega
          have HO7 := Lib.hid (HO.out.alloc (.cells #[.int .u64 (x - (c + y))] 83))
          have HV7 := Lib.hid (digV_at wr wr.heap.size (x - (c + y)) rfl)
          have hz7 : w.heap.size + 1 + 1 + 1 + 1 ≤ (wr.alloc (.cells #[.int .u64 (x - (c + y))] 83)).heap.size := by have := hb.size; simp; omega
          have hb7 := hb.alloc hb.size (.cells #[.int .u64 (x - (c + y))] 83)
          go_wp2_with (at_builtin; refine wpList_append_g hkD (by decide) 71 83 i0 _ 8 Tryz.underlying71 HI.out HZ0.out HZ1.out HZ2.out rfl _ rfl (.tmp 38) (.tmp 42) rfl (w.heap.size + 1 + 1 + 1 + 1) _ _ L [x - (c + y)] rfl rfl HO7.out HV7.out (one_dig _) (by unfold maxLen; simp only [List.length_singleton]; omega) (by simp only [List.length_singleton]; omega) hz7 ?_; intro v8 w8 ho8 hg8; obtain ⟨A8, c8, rfl⟩ := own_shape ho8; have bb1 : Blk w8 w.heap.size _ 73 := (hg8.block w.heap.size (by simp; omega) (fun e => absurd (OwnG.lt HO7.out _ e.symm).1 (by omega))).trans (b1.alloc _); have bb2 : Blk w8 (w.heap.size + 1) _ 73 := (hg8.block (w.heap.size + 1) (by simp; omega) (fun e => absurd (OwnG.lt HO7.out _ e.symm).1 (by omega))).trans (b2.alloc _); have bbR : Blk w8 (w.heap.size + 1 + 1) _ 73 := (hg8.block (w.heap.size + 1 + 1) (by simp; omega) (fun e => absurd (OwnG.lt HO7.out _ e.symm).1 (by omega))).trans (bR.alloc _); have bbO : Blk w8 (w.heap.size + 1 + 1 + 1) _ 73 := (hg8.block (w.heap.size + 1 + 1 + 1) (by simp; omega) (fun e => absurd (OwnG.lt HO7.out _ e.symm).1 (by omega))).trans (bO.alloc _); have d1 := bbO.cell 1; have g1 := bbO.frozen 1; simp only [List.getElem?_toArray, List.getElem?_cons_zero, List.getElem?_cons_succ] at d1)
          refine ⟨⟨L ++ [x - (c + y)], 0, rfl, by simp, hnext, by simp; omega, ((hb7.trans ((OwnG.grown HO7.out hz7 hg8).mono (by omega))).setCell (by simp; omega) _), bb1.setOther (by omega) _ _, bb2.setOther (by omega) _ _, bbR.setOther (by omega) _ _, _, by simpa using bbO.set 1 _, OwnDig.setOther (by simpa using ho8) (by omega) _ _⟩, ?_⟩
          simp [intOf]
          omega
      · have HG2 := Lib.hid (get_none L2 L.length (by omega))
        by_cases hlt : x < c
        · skip
          have hnext : Hid (SubInv L1 L2 (L ++ [x + 1000000 - (c)]) 1) := by
            have h := hinv.out.step N1.out N2.out x (c) HG1.out.symm (by rw [HG2.out]; try omega)
            rw [if_pos hlt, if_pos hlt] at h
            exact h
          have hs0 : 0 ≤ x + 1000000 - (c) ∧ x + 1000000 - (c) < 1000000 := by omega
          have HO7 := Lib.hid (HO.out.alloc (.cells #[.int .u64 (x + 1000000 - (c))] 83))
          have HV7 := Lib.hid (digV_at wr wr.heap.size (x + 1000000 - (c)) rfl)
          have hz7 : w.heap.size + 1 + 1 + 1 + 1 ≤ (wr.alloc (.cells #[.int .u64 (x + 1000000 - (c))] 83)).heap.size := by have := hb.size; simp; omega
          have hb7 := hb.alloc hb.size (.cells #[.int .u64 (x + 1000000 - (c))] 83)
          go_wp2_with (at_builtin; refine wpList_append_g hkD (by decide) 71 83 i0 _ 8 Tryz.underlying71 HI.out HZ0.out HZ1.out HZ2.out rfl _ rfl (.tmp 38) (.tmp 42) rfl (w.heap.size + 1 + 1 + 1 + 1) _ _ L [x + 1000000 - (c)] rfl rfl HO7.out HV7.out (one_dig _) (by unfold maxLen; simp only [List.length_singleton]; omega) (by simp only [List.length_singleton]; omega) hz7 ?_; intro v8 w8 ho8 hg8; obtain ⟨A8, c8, rfl⟩ := own_shape ho8; have bb1 : Blk w8 w.heap.size _ 73 := (hg8.block w.heap.size (by simp; omega) (fun e => absurd (OwnG.lt HO7.out _ e.symm).1 (by omega))).trans (b1.alloc _); have bb2 : Blk w8 (w.heap.size + 1) _ 73 := (hg8.block (w.heap.size + 1) (by simp; omega) (fun e => absurd (OwnG.lt HO7.out _ e.symm).1 (by omega))).trans (b2.alloc _); have bbR : Blk w8 (w.heap.size + 1 + 1) _ 73 := (hg8.block (w.heap.size + 1 + 1) (by simp; omega) (fun e => absurd (OwnG.lt HO7.out _ e.symm).1 (by omega))).trans (bR.alloc _); have bbO : Blk w8 (w.heap.size + 1 + 1 + 1) _ 73 := (hg8.block (w.heap.size + 1 + 1 + 1) (by simp; omega) (fun e => absurd (OwnG.lt HO7.out _ e.symm).1 (by omega))).trans (bO.alloc _); have d1 := bbO.cell 1; have g1 := bbO.frozen 1; simp only [List.getElem?_toArray, List.getElem?_cons_zero, List.getElem?_cons_succ] at d1)
          refine ⟨⟨L ++ [x + 1000000 - (c)], 1, rfl, by simp, hnext, by simp; omega, ((hb7.trans ((OwnG.grown HO7.out hz7 hg8).mono (by omega))).setCell (by simp; omega) _), bb1.setOther (by omega) _ _, bb2.setOther (by omega) _ _, bbR.setOther (by omega) _ _, _, by simpa using bbO.set 1 _, OwnDig.setOther (by simpa using ho8) (by omega) _ _⟩, ?_⟩
          simp [intOf]
          omega
        · skip
          have hnext : Hid (SubInv L1 L2 (L ++ [x - (c)]) 0) := by
            have h := hinv.out.step N1.out N2.out x (c) HG1.out.symm (by rw [HG2.out]; try omega)
            rw [if_neg hlt, if_neg hlt] at h
            exact h
          have hs0 : 0 ≤ x - (c) ∧ x - (c) < 1000000 := by omega
          have HO7 := Lib.hid (HO.out.alloc (.cells #[.int .u64 (x - (c))] 83))
          have HV7 := Lib.hid (digV_at wr wr.heap.size (x - (c)) rfl)
          have hz7 : w.heap.size + 1 + 1 + 1 + 1 ≤ (wr.alloc (.cells #[.int .u64 (x - (c))] 83)).heap.size := by have := hb.size; simp; omega
          have hb7 := hb.alloc hb.size (.cells #[.int .u64 (x - (c))] 83)
          go_wp2_with (at_builtin; refine wpList_append_g hkD (by decide) 71 83 i0 _ 8 Tryz.underlying71 HI.out HZ0.out HZ1.out HZ2.out rfl _ rfl (.tmp 38) (.tmp 42) rfl (w.heap.size + 1 + 1 + 1 + 1) _ _ L [x - (c)] rfl rfl HO7.out HV7.out (one_dig _) (by unfold maxLen; simp only [List.length_singleton]; omega) (by simp only [List.length_singleton]; omega) hz7 ?_; intro v8 w8 ho8 hg8; obtain ⟨A8, c8, rfl⟩ := own_shape ho8; have bb1 : Blk w8 w.heap.size _ 73 := (hg8.block w.heap.size (by simp; omega) (fun e => absurd (OwnG.lt HO7.out _ e.symm).1 (by omega))).trans (b1.alloc _); have bb2 : Blk w8 (w.heap.size + 1) _ 73 := (hg8.block (w.heap.size + 1) (by simp; omega) (fun e => absurd (OwnG.lt HO7.out _ e.symm).1 (by omega))).trans (b2.alloc _); have bbR : Blk w8 (w.heap.size + 1 + 1) _ 73 := (hg8.block (w.heap.size + 1 + 1) (by simp; omega) (fun e => absurd (OwnG.lt HO7.out _ e.symm).1 (by omega))).trans (bR.alloc _); have bbO : Blk w8 (w.heap.size + 1 + 1 + 1) _ 73 := (hg8.block (w.heap.size + 1 + 1 + 1) (by simp; omega) (fun e => absurd (OwnG.lt HO7.out _ e.symm).1 (by omega))).trans (bO.alloc _); have d1 := bbO.cell 1; have g1 := bbO.frozen 1; simp only [List.getElem?_toArray, List.getElem?_cons_zero, List.getElem?_cons_succ] at d1)
          refine ⟨⟨L ++ [x - (c)], 0, rfl, by simp, hnext, by simp; omega, ((hb7.trans ((OwnG.grown HO7.out hz7 hg8).mono (by omega))).setCell (by simp; omega) _), bb1.setOther (by omega) _ _, bb2.setOther (by omega) _ _, bbR.setOther (by omega) _ _, _, by simpa using bbO.set 1 _, OwnDig.setOther (by simpa using ho8) (by omega) _ _⟩, ?_⟩
          simp [intOf]
          omega
    · have hL1 : L1.length = L.length := by omega
      have hd := Lib.hid (hinv.out.done hL1 (by omega) HVV.out)
      have HS := Lib.hid (OwnG.val hkD HO.out)
      obtain ⟨A, q, rfl⟩ := own_shape HO.out
      have HT := Lib.hid (fun W (hW : DigV W (.slice A L.length q) L) => trimmed_any A q L W hW hd.out.1 (by omega))
      clear hinv
      go_wp2_with (go_at_call 94; refine (HT.out _ HS.out).mono ?_; rintro e w2 ⟨n, hn, rfl, hnm, hvl, hbb⟩; have bR2 := bR.below hbb; have r0 := bR2.cell 0; have r1 := bR2.cell 1; have g0 := bR2.frozen 0; have g1 := bR2.frozen 1; simp only [List.getElem?_toArray, List.getElem?_cons_zero, List.getElem?_cons_succ] at r0 r1)
      have bF := (bR2.set 0 (.bool false)).set 1 (.slice A n q)
      have d0 := bF.cell 0
      have d1 := bF.cell 1
      simp only [List.setIfInBounds_toArray, List.set_cons_zero, List.set_cons_succ, List.getElem?_toArray, List.getElem?_cons_zero, List.getElem?_cons_succ] at d0 d1
      have hO2 := OwnDig.setOther (OwnDig.setOther (HO.out.below hbb) (b := w.heap.size + 1 + 1) (by omega) 0 (.bool false)) (b := w.heap.size + 1 + 1) (by omega) 1 (.slice A n q)
      refine bodyPost_ret (v := .agg #[.bool false, .slice A n q]) (by simp [results, Tryz.results95, go_sem, d0, d1]) rfl ⟨_, L.take n, rfl, DigB.cut (OwnDig.dig hO2 (by omega)) n hn, hnm, by rw [hvl]; exact hd.out.2, (((hb.trans (hbb.mono hb.size)).setCell (by simp; omega) _).setCell (by simp; omega) _)⟩
end Go.Proofs.YtippffjhkinfoaaGreatDoor
