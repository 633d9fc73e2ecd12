/-
  The reference's whole numbers: sums of amounts.
-/
import Derived.Test.YtippffjhkinfoaaGreatDoorBig
namespace Go.Proofs.YtippffjhkinfoaaGreatDoor
open Go.RowKit

theorem get_some (L : List Int) (k : Nat) (x : Int) (h : L[k]? = some x) : L[k]?.getD 0 = x := by rw [h]; rfl
theorem get_none (L : List Int) (k : Nat) (h : L.length ≤ k) : L[k]?.getD 0 = 0 := by rw [List.getElem?_eq_none h]; rfl
theorem wrap_pos (x : Int) (h0 : 0 ≤ x) (h1 : x < 18446744073709551616) : IntKind.u64.wrap x = x := by
  simp only [IntKind.wrap, IntKind.bits, IntKind.signed]
  simp
  omega

set_option maxRecDepth 100000 in
set_option maxHeartbeats 4000000 in
theorem added_any (m1 m2 : Bool) (v1 v2 : Value) (L1 L2 : List Int) (w : World) (h1 : DigV w v1 L1) (h2 : DigV w v2 L2) (n1 : Norm L1) (n2 : Norm L2) (l1 : L1.length ≤ 5000) (l2 : L2.length ≤ 5000) :
    Calls Tryz.prog 68 #[.agg #[.bool m1, v1], .agg #[.bool m2, v2]] w fun e w' => ∃ v' L, e = .returned (.agg #[.bool false, v']) ∧ DigB w' w.heap.size v' L ∧ Norm L ∧ valD L = valD L1 + valD L2 ∧ Below w.heap.size w w' := by
  obtain ⟨i0, hi, hz0, hz1, hz2⟩ := info_parts info83
  have HI := Lib.hid hi
  have HZ0 := Lib.hid hz0
  have HZ1 := Lib.hid hz1
  have HZ2 := Lib.hid hz2
  clear hi hz0 hz1 hz2
  obtain ⟨A1, c1, rfl, hc1, HA1⟩ := DigV.open h1
  obtain ⟨A2, c2, rfl, hc2, HA2⟩ := DigV.open h2
  have N1 := Lib.hid n1
  have N2 := Lib.hid n2
  clear h1 h2 n1 n2
  go_enter Tryz.func68, Tryz.ntmps68
  go_wp2_with fail
  have hb4 := ((((Below.refl w.heap.size w).alloc (Nat.le_refl _) (Obj.cells #[Value.bool m1, Value.slice A1 L1.length c1] 73)).alloc (by simp) (Obj.cells #[Value.bool m2, Value.slice A2 L2.length c2] 73)).alloc (by simp; omega) (Obj.cells #[Value.bool false, Value.slice none 0 0] 73)).alloc (by simp; omega) (Obj.cells #[Value.bool false, Value.slice none 0 0] 73)
  have s1 := (((Blk.new w #[Value.bool m1, Value.slice A1 L1.length c1] 73).alloc (Obj.cells #[Value.bool m2, Value.slice A2 L2.length c2] 73)).alloc (Obj.cells #[Value.bool false, Value.slice none 0 0] 73)).alloc (Obj.cells #[Value.bool false, Value.slice none 0 0] 73)
  have s2 := ((Blk.atB (w := w.alloc (Obj.cells #[Value.bool m1, Value.slice A1 L1.length c1] 73)) (b := w.heap.size + 1) (cs := #[Value.bool m2, Value.slice A2 L2.length c2]) (t := 73) (by simp)).alloc (Obj.cells #[Value.bool false, Value.slice none 0 0] 73)).alloc (Obj.cells #[Value.bool false, Value.slice none 0 0] 73)
  have s3 := (Blk.atB (w := (w.alloc (Obj.cells #[Value.bool m1, Value.slice A1 L1.length c1] 73)).alloc (Obj.cells #[Value.bool m2, Value.slice A2 L2.length c2] 73)) (b := w.heap.size + 1 + 1) (cs := #[Value.bool false, Value.slice none 0 0]) (t := 73) (by simp)).alloc (Obj.cells #[Value.bool false, Value.slice none 0 0] 73)
  have s4 := Blk.atB (w := ((w.alloc (Obj.cells #[Value.bool m1, Value.slice A1 L1.length c1] 73)).alloc (Obj.cells #[Value.bool m2, Value.slice A2 L2.length c2] 73)).alloc (Obj.cells #[Value.bool false, Value.slice none 0 0] 73)) (b := w.heap.size + 1 + 1 + 1) (cs := #[Value.bool false, Value.slice none 0 0]) (t := 73) (by simp)
  go_loopw [6, 7] (fun q n wr => ∃ (L : List Int) (c : Int), q = .int .u64 c ∧ n = .int .i64 (L.length : Int) ∧ Hid (AddInv L1 L2 L c) ∧ Hid (L.length ≤ 5000 ∨ (c = 0 ∧ L.length = 5001)) ∧ Below w.heap.size w wr ∧ Blk wr w.heap.size #[Value.bool m1, Value.slice A1 L1.length c1] 73 ∧ Blk wr (w.heap.size + 1) #[Value.bool m2, Value.slice A2 L2.length c2] 73 ∧ Blk wr (w.heap.size + 1 + 1) #[.bool false, .slice none 0 0] 73 ∧ ∃ sl, Blk wr (w.heap.size + 1 + 1 + 1) #[.bool false, sl] 73 ∧ Hid (OwnDig wr (w.heap.size + 1 + 1 + 1 + 1) sl L)) (fun q n _ => 10000 - (intOf n).toNat)
  case atStart => exact ⟨[], 0, rfl, rfl, AddInv.start _ _, .inl (by simp), hb4, s1, s2, s3, _, s4, OwnG.nil 83 _ _⟩
  case round =>
    obtain ⟨L, c, rfl, rfl, hinv, HL, hb, b1, b2, bR, sl, bO, HO⟩ := hrel
    clear s1 s2 s3 s4 hb4
    have hz := bO.lt
    have hL : L.length ≤ 5001 := by rcases HL.out with h | ⟨_, h⟩ <;> omega
    have hcc : 0 ≤ c ∧ c ≤ 1 := ⟨hinv.out.2.1, hinv.out.2.2.1⟩
    have x0 := b1.cell 0
    have x1 := b1.cell 1
    have y0 := b2.cell 0
    have y1 := b2.cell 1
    have c0 := bO.cell 0
    have c1' := bO.cell 1
    simp only [List.getElem?_toArray, List.getElem?_cons_zero, List.getElem?_cons_succ] at x0 x1 y0 y1 c0 c1'
    by_cases hk1 : L.length < L1.length
    · by_cases hk2 : L.length < L2.length
      · skip
        obtain ⟨q1, o1, rfl, hq1, hat1⟩ := HA1.out.resolve_left (by rintro rfl; simp at hk1)
        have hd1 := N1.out.1 L1[L.length] (List.getElem_mem hk1)
        have HG1 := Lib.hid (get_some L1 L.length L1[L.length] (List.getElem?_eq_getElem hk1))
        have e1 := (hb.cell (p := ⟨q1, o1 + L.length, none⟩) hq1).trans (hat1 L.length L1[L.length] (List.getElem?_eq_getElem hk1))
        clear hat1
        revert hd1 HG1 e1
        generalize L1[L.length] = x
        intro hd1 HG1 e1
        obtain ⟨q2, o2, rfl, hq2, hat2⟩ := HA2.out.resolve_left (by rintro rfl; simp at hk2)
        have hd2 := N2.out.1 L2[L.length] (List.getElem_mem hk2)
        have HG2 := Lib.hid (get_some L2 L.length L2[L.length] (List.getElem?_eq_getElem hk2))
        have e2 := (hb.cell (p := ⟨q2, o2 + L.length, none⟩) hq2).trans (hat2 L.length L2[L.length] (List.getElem?_eq_getElem hk2))
        clear hat2
        revert hd2 HG2 e2
        generalize L2[L.length] = y
        intro hd2 HG2 e2
        have hnext := Lib.hid (hinv.out.step N1.out N2.out (.inl hk1) (c + x + y) (by rw [HG1.out, HG2.out]; try omega))
        have hs0 : 0 ≤ c + x + y ∧ c + x + y < 2000000 := by omega
        have HW := Lib.hid (wrap_pos (c + x + y) (by omega) (by omega))
        have HO7 := Lib.hid (HO.out.alloc (.cells #[.int .u64 ((c + x + y) % 1000000)] 83))
        have HV7 := Lib.hid (digV_at wr wr.heap.size ((c + x + y) % 1000000) rfl)
        have hz7 : w.heap.size + 1 + 1 + 1 + 1 ≤ (wr.alloc (.cells #[.int .u64 ((c + x + y) % 1000000)] 83)).heap.size := by have := hb.size; simp; omega
        have hb7 := hb.alloc hb.size (.cells #[.int .u64 ((c + x + y) % 1000000)] 83)
        go_wp2_with (at_builtin; refine wpList_append_g hkD (by decide) 71 83 i0 _ 8 Tryz.underlying71 HI.out HZ0.out HZ1.out HZ2.out rfl _ rfl (.tmp 52) (.tmp 55) rfl (w.heap.size + 1 + 1 + 1 + 1) _ _ L [(c + x + y) % 1000000] rfl rfl HO7.out HV7.out (one_dig _) (by unfold maxLen; simp only [List.length_singleton]; omega) (by simp only [List.length_singleton]; omega) hz7 ?_; intro v8 w8 ho8 hg8; obtain ⟨A8, c8, rfl⟩ := own_shape ho8; have bb1 : Blk w8 w.heap.size _ 73 := (hg8.block w.heap.size (by simp; omega) (fun e => absurd (OwnG.lt HO7.out _ e.symm).1 (by omega))).trans (b1.alloc _); have bb2 : Blk w8 (w.heap.size + 1) _ 73 := (hg8.block (w.heap.size + 1) (by simp; omega) (fun e => absurd (OwnG.lt HO7.out _ e.symm).1 (by omega))).trans (b2.alloc _); have bbR : Blk w8 (w.heap.size + 1 + 1) _ 73 := (hg8.block (w.heap.size + 1 + 1) (by simp; omega) (fun e => absurd (OwnG.lt HO7.out _ e.symm).1 (by omega))).trans (bR.alloc _); have bbO : Blk w8 (w.heap.size + 1 + 1 + 1) _ 73 := (hg8.block (w.heap.size + 1 + 1 + 1) (by simp; omega) (fun e => absurd (OwnG.lt HO7.out _ e.symm).1 (by omega))).trans (bO.alloc _); have d1 := bbO.cell 1; have g1 := bbO.frozen 1; simp only [List.getElem?_toArray, List.getElem?_cons_zero, List.getElem?_cons_succ] at d1)
        refine ⟨⟨L ++ [(c + x + y) % 1000000], (c + x + y) / 1000000, rfl, by simp, hnext, (.inl (by simp; omega)), ((hb7.trans ((OwnG.grown HO7.out hz7 hg8).mono (by omega))).setCell (by simp; omega) _), bb1.setOther (by omega) _ _, bb2.setOther (by omega) _ _, bbR.setOther (by omega) _ _, _, by simpa using bbO.set 1 _, OwnDig.setOther (by simpa using ho8) (by omega) _ _⟩, ?_⟩
        simp [intOf]
        omega
      · skip
        obtain ⟨q1, o1, rfl, hq1, hat1⟩ := HA1.out.resolve_left (by rintro rfl; simp at hk1)
        have hd1 := N1.out.1 L1[L.length] (List.getElem_mem hk1)
        have HG1 := Lib.hid (get_some L1 L.length L1[L.length] (List.getElem?_eq_getElem hk1))
        have e1 := (hb.cell (p := ⟨q1, o1 + L.length, none⟩) hq1).trans (hat1 L.length L1[L.length] (List.getElem?_eq_getElem hk1))
        clear hat1
        revert hd1 HG1 e1
        generalize L1[L.length] = x
        intro hd1 HG1 e1
        have HG2 := Lib.hid (get_none L2 L.length (by omega))
        have hnext := Lib.hid (hinv.out.step N1.out N2.out (.inl hk1) (c + x) (by rw [HG1.out, HG2.out]; try omega))
        have hs0 : 0 ≤ c + x ∧ c + x < 2000000 := by omega
        have HW := Lib.hid (wrap_pos (c + x) (by omega) (by omega))
        have HO7 := Lib.hid (HO.out.alloc (.cells #[.int .u64 ((c + x) % 1000000)] 83))
        have HV7 := Lib.hid (digV_at wr wr.heap.size ((c + x) % 1000000) rfl)
        have hz7 : w.heap.size + 1 + 1 + 1 + 1 ≤ (wr.alloc (.cells #[.int .u64 ((c + x) % 1000000)] 83)).heap.size := by have := hb.size; simp; omega
        have hb7 := hb.alloc hb.size (.cells #[.int .u64 ((c + x) % 1000000)] 83)
        go_wp2_with (at_builtin; refine wpList_append_g hkD (by decide) 71 83 i0 _ 8 Tryz.underlying71 HI.out HZ0.out HZ1.out HZ2.out rfl _ rfl (.tmp 52) (.tmp 55) rfl (w.heap.size + 1 + 1 + 1 + 1) _ _ L [(c + x) % 1000000] rfl rfl HO7.out HV7.out (one_dig _) (by unfold maxLen; simp only [List.length_singleton]; omega) (by simp only [List.length_singleton]; omega) hz7 ?_; intro v8 w8 ho8 hg8; obtain ⟨A8, c8, rfl⟩ := own_shape ho8; have bb1 : Blk w8 w.heap.size _ 73 := (hg8.block w.heap.size (by simp; omega) (fun e => absurd (OwnG.lt HO7.out _ e.symm).1 (by omega))).trans (b1.alloc _); have bb2 : Blk w8 (w.heap.size + 1) _ 73 := (hg8.block (w.heap.size + 1) (by simp; omega) (fun e => absurd (OwnG.lt HO7.out _ e.symm).1 (by omega))).trans (b2.alloc _); have bbR : Blk w8 (w.heap.size + 1 + 1) _ 73 := (hg8.block (w.heap.size + 1 + 1) (by simp; omega) (fun e => absurd (OwnG.lt HO7.out _ e.symm).1 (by omega))).trans (bR.alloc _); have bbO : Blk w8 (w.heap.size + 1 + 1 + 1) _ 73 := (hg8.block (w.heap.size + 1 + 1 + 1) (by simp; omega) (fun e => absurd (OwnG.lt HO7.out _ e.symm).1 (by omega))).trans (bO.alloc _); have d1 := bbO.cell 1; have g1 := bbO.frozen 1; simp only [List.getElem?_toArray, List.getElem?_cons_zero, List.getElem?_cons_succ] at d1)
        refine ⟨⟨L ++ [(c + x) % 1000000], (c + x) / 1000000, rfl, by simp, hnext, (.inl (by simp; omega)), ((hb7.trans ((OwnG.grown HO7.out hz7 hg8).mono (by omega))).setCell (by simp; omega) _), bb1.setOther (by omega) _ _, bb2.setOther (by omega) _ _, bbR.setOther (by omega) _ _, _, by simpa using bbO.set 1 _, OwnDig.setOther (by simpa using ho8) (by omega) _ _⟩, ?_⟩
        simp [intOf]
        omega
    · by_cases hk2 : L.length < L2.length
      · skip
        have HG1 := Lib.hid (get_none L1 L.length (by omega))
        obtain ⟨q2, o2, rfl, hq2, hat2⟩ := HA2.out.resolve_left (by rintro rfl; simp at hk2)
        have hd2 := N2.out.1 L2[L.length] (List.getElem_mem hk2)
        have HG2 := Lib.hid (get_some L2 L.length L2[L.length] (List.getElem?_eq_getElem hk2))
        have e2 := (hb.cell (p := ⟨q2, o2 + L.length, none⟩) hq2).trans (hat2 L.length L2[L.length] (List.getElem?_eq_getElem hk2))
        clear hat2
        revert hd2 HG2 e2
        generalize L2[L.length] = y
        intro hd2 HG2 e2
        have hnext := Lib.hid (hinv.out.step N1.out N2.out (.inr (.inl hk2)) (c + y) (by rw [HG1.out, HG2.out]; try omega))
        have hs0 : 0 ≤ c + y ∧ c + y < 2000000 := by omega
        have HW := Lib.hid (wrap_pos (c + y) (by omega) (by omega))
        have HO7 := Lib.hid (HO.out.alloc (.cells #[.int .u64 ((c + y) % 1000000)] 83))
        have HV7 := Lib.hid (digV_at wr wr.heap.size ((c + y) % 1000000) rfl)
        have hz7 : w.heap.size + 1 + 1 + 1 + 1 ≤ (wr.alloc (.cells #[.int .u64 ((c + y) % 1000000)] 83)).heap.size := by have := hb.size; simp; omega
        have hb7 := hb.alloc hb.size (.cells #[.int .u64 ((c + y) % 1000000)] 83)
        go_wp2_with (at_builtin; refine wpList_append_g hkD (by decide) 71 83 i0 _ 8 Tryz.underlying71 HI.out HZ0.out HZ1.out HZ2.out rfl _ rfl (.tmp 52) (.tmp 55) rfl (w.heap.size + 1 + 1 + 1 + 1) _ _ L [(c + y) % 1000000] rfl rfl HO7.out HV7.out (one_dig _) (by unfold maxLen; simp only [List.length_singleton]; omega) (by simp only [List.length_singleton]; omega) hz7 ?_; intro v8 w8 ho8 hg8; obtain ⟨A8, c8, rfl⟩ := own_shape ho8; have bb1 : Blk w8 w.heap.size _ 73 := (hg8.block w.heap.size (by simp; omega) (fun e => absurd (OwnG.lt HO7.out _ e.symm).1 (by omega))).trans (b1.alloc _); have bb2 : Blk w8 (w.heap.size + 1) _ 73 := (hg8.block (w.heap.size + 1) (by simp; omega) (fun e => absurd (OwnG.lt HO7.out _ e.symm).1 (by omega))).trans (b2.alloc _); have bbR : Blk w8 (w.heap.size + 1 + 1) _ 73 := (hg8.block (w.heap.size + 1 + 1) (by simp; omega) (fun e => absurd (OwnG.lt HO7.out _ e.symm).1 (by omega))).trans (bR.alloc _); have bbO : Blk w8 (w.heap.size + 1 + 1 + 1) _ 73 := (hg8.block (w.heap.size + 1 + 1 + 1) (by simp; omega) (fun e => absurd (OwnG.lt HO7.out _ e.symm).1 (by omega))).trans (bO.alloc _); have d1 := bbO.cell 1; have g1 := bbO.frozen 1; simp only [List.getElem?_toArray, List.getElem?_cons_zero, List.getElem?_cons_succ] at d1)
        refine ⟨⟨L ++ [(c + y) % 1000000], (c + y) / 1000000, rfl, by simp, hnext, (.inl (by simp; omega)), ((hb7.trans ((OwnG.grown HO7.out hz7 hg8).mono (by omega))).setCell (by simp; omega) _), bb1.setOther (by omega) _ _, bb2.setOther (by omega) _ _, bbR.setOther (by omega) _ _, _, by simpa using bbO.set 1 _, OwnDig.setOther (by simpa using ho8) (by omega) _ _⟩, ?_⟩
        simp [intOf]
        omega
      · by_cases hcp : 0 < c
        · skip
          have HG1 := Lib.hid (get_none L1 L.length (by omega))
          have HG2 := Lib.hid (get_none L2 L.length (by omega))
          have hnext := Lib.hid (hinv.out.step N1.out N2.out (.inr (.inr hcp)) (c) (by rw [HG1.out, HG2.out]; try omega))
          have hs0 : 0 ≤ c ∧ c < 2000000 := by omega
          have HW := Lib.hid (wrap_pos (c) (by omega) (by omega))
          have HO7 := Lib.hid (HO.out.alloc (.cells #[.int .u64 ((c) % 1000000)] 83))
          have HV7 := Lib.hid (digV_at wr wr.heap.size ((c) % 1000000) rfl)
          have hz7 : w.heap.size + 1 + 1 + 1 + 1 ≤ (wr.alloc (.cells #[.int .u64 ((c) % 1000000)] 83)).heap.size := by have := hb.size; simp; omega
          have hb7 := hb.alloc hb.size (.cells #[.int .u64 ((c) % 1000000)] 83)
          go_wp2_with (at_builtin; refine wpList_append_g hkD (by decide) 71 83 i0 _ 8 Tryz.underlying71 HI.out HZ0.out HZ1.out HZ2.out rfl _ rfl (.tmp 52) (.tmp 55) rfl (w.heap.size + 1 + 1 + 1 + 1) _ _ L [(c) % 1000000] rfl rfl HO7.out HV7.out (one_dig _) (by unfold maxLen; simp only [List.length_singleton]; omega) (by simp only [List.length_singleton]; omega) hz7 ?_; intro v8 w8 ho8 hg8; obtain ⟨A8, c8, rfl⟩ := own_shape ho8; have bb1 : Blk w8 w.heap.size _ 73 := (hg8.block w.heap.size (by simp; omega) (fun e => absurd (OwnG.lt HO7.out _ e.symm).1 (by omega))).trans (b1.alloc _); have bb2 : Blk w8 (w.heap.size + 1) _ 73 := (hg8.block (w.heap.size + 1) (by simp; omega) (fun e => absurd (OwnG.lt HO7.out _ e.symm).1 (by omega))).trans (b2.alloc _); have bbR : Blk w8 (w.heap.size + 1 + 1) _ 73 := (hg8.block (w.heap.size + 1 + 1) (by simp; omega) (fun e => absurd (OwnG.lt HO7.out _ e.symm).1 (by omega))).trans (bR.alloc _); have bbO : Blk w8 (w.heap.size + 1 + 1 + 1) _ 73 := (hg8.block (w.heap.size + 1 + 1 + 1) (by simp; omega) (fun e => absurd (OwnG.lt HO7.out _ e.symm).1 (by omega))).trans (bO.alloc _); have d1 := bbO.cell 1; have g1 := bbO.frozen 1; simp only [List.getElem?_toArray, List.getElem?_cons_zero, List.getElem?_cons_succ] at d1)
          refine ⟨⟨L ++ [(c) % 1000000], (c) / 1000000, rfl, by simp, hnext, (by have := HL.out; unfold Hid; simp only [List.length_append, List.length_singleton]; omega), ((hb7.trans ((OwnG.grown HO7.out hz7 hg8).mono (by omega))).setCell (by simp; omega) _), bb1.setOther (by omega) _ _, bb2.setOther (by omega) _ _, bbR.setOther (by omega) _ _, _, by simpa using bbO.set 1 _, OwnDig.setOther (by simpa using ho8) (by omega) _ _⟩, ?_⟩
          simp [intOf]
          omega
        · obtain rfl : c = 0 := by omega
          have hd := Lib.hid (hinv.out.done (by omega) (by omega))
          obtain ⟨A, q, rfl⟩ := own_shape HO.out
          have r0 := bR.cell 0
          have r1 := bR.cell 1
          have g0 := bR.frozen 0
          have g1 := bR.frozen 1
          simp only [List.getElem?_toArray, List.getElem?_cons_zero, List.getElem?_cons_succ] at r0 r1
          clear hinv
          go_wp2_with fail
          have bF := (bR.set 0 (.bool false)).set 1 (.slice A L.length q)
          have d0 := bF.cell 0
          have d1 := bF.cell 1
          simp only [List.setIfInBounds_toArray, List.set_cons_zero, List.set_cons_succ, List.getElem?_toArray, List.getElem?_cons_zero, List.getElem?_cons_succ] at d0 d1
          refine bodyPost_ret (v := .agg #[.bool false, .slice A L.length q]) (by simp [results, Tryz.results68, go_sem, d0, d1]) rfl ⟨_, rfl, L, ?_, hd.out.1, hd.out.2, ((hb.setCell (by simp; omega) _).setCell (by simp; omega) _)⟩
          exact OwnDig.dig (OwnDig.setOther (OwnDig.setOther HO.out (by omega) _ _) (by omega) _ _) (by omega)
end Go.Proofs.YtippffjhkinfoaaGreatDoor
