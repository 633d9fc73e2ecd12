/-
  The reference's whole numbers: of a word of sixty-four bits.
-/
import Derived.Test.YtippffjhkinfoaaGreatDoorBig2
namespace Go.Proofs.YtippffjhkinfoaaGreatDoor
open Go.RowKit

set_option maxRecDepth 100000 in
set_option maxHeartbeats 4000000 in
theorem word_any (i : Int) (w : World) (h0 : 0 ≤ i) (h1 : i ≤ 18446744073709551615) :
    Calls Tryz.prog 96 #[.int .u64 i] w fun e w' => ∃ A c L, e = .returned (.agg #[.bool false, .slice A L.length c]) ∧ DigB w' w.heap.size (.slice A L.length c) L ∧ Norm L ∧ valD L = i ∧ Below w.heap.size w w' := by
  obtain ⟨i0, hi, hz0, hz1, hz2⟩ := info_parts info83
  have HI := Lib.hid hi
  have HZ0 := Lib.hid hz0
  have HZ1 := Lib.hid hz1
  have HZ2 := Lib.hid hz2
  clear hi hz0 hz1 hz2
  go_enter Tryz.func96, Tryz.ntmps96
  go_wp2_with fail
  have hb2 := ((Below.refl w.heap.size w).alloc (Nat.le_refl _) (Obj.cells #[Value.bool false, Value.slice none 0 0] 73)).alloc (by simp) (Obj.cells #[Value.bool false, Value.slice none 0 0] 73)
  have bR := (Blk.new w #[Value.bool false, Value.slice none 0 0] 73).alloc (Obj.cells #[Value.bool false, Value.slice none 0 0] 73)
  have bO : Blk ((w.alloc (Obj.cells #[Value.bool false, Value.slice none 0 0] 73)).alloc (Obj.cells #[Value.bool false, Value.slice none 0 0] 73)) (w.heap.size + 1) #[Value.bool false, Value.slice none 0 0] 73 := Blk.atB (by simp)
  go_loopw [0] (fun n wr => ∃ (L : List Int) (q : Int), n = .int .u64 q ∧ Hid (OfInv i L q) ∧ Below w.heap.size w wr ∧ Blk wr w.heap.size #[.bool false, .slice none 0 0] 73 ∧ ∃ sl, Blk wr (w.heap.size + 1) #[.bool false, sl] 73 ∧ Hid (OwnDig wr (w.heap.size + 2) sl L)) (fun n _ => (intOf n).toNat)
  case atStart => exact ⟨[], i, rfl, OfInv.start _ (by omega), hb2, bR, _, bO, OwnG.nil 83 _ _⟩
  case round =>
    obtain ⟨L, q, rfl, hinv, hb, bR2, sl, bO2, HO⟩ := hrel
    have hq0 : 0 ≤ q := hinv.out.2.1
    clear bR bO hb2
    have hz := bO2.lt
    have c0 := bO2.cell 0
    have c1 := bO2.cell 1
    have f1 := bO2.frozen 1
    simp only [List.getElem?_toArray, List.getElem?_cons_zero, List.getElem?_cons_succ] at c0 c1
    by_cases hq : 0 < q
    · have hnext := Lib.hid (hinv.out.step hq)
      have hL4 : L.length ≤ 4 := by
        have h1 := hinv.out.2.2.2
        rcases h1 with rfl | h1
        · simp
        · rcases Nat.lt_or_ge 4 L.length with q4 | q4
          · have h2 := pw_mono (m := 4) (n := L.length - 1) (by omega)
            have e : pw 4 = 1000000000000000000000000 := by decide
            omega
          · exact q4
      have hqb : q ≤ 18446744073709551615 := by
        have v1 := (valD_bound hinv.out.1).1
        have v2 := hinv.out.2.2.1
        have hm : 1 * q ≤ pw L.length * q := Int.mul_le_mul_of_nonneg_right (pw_pos _) hq0
        omega
      have hwq : IntKind.u64.wrap (q / 1000000) = q / 1000000 := by
        simp only [IntKind.wrap, IntKind.bits, IntKind.signed]
        simp
        omega
      have hqd : 0 ≤ q % 1000000 ∧ q % 1000000 < 1000000 := by omega
      have hqt : q.tdiv 1000000 = q / 1000000 := Int.tdiv_eq_ediv_of_nonneg hq0
      have hqm : q.tmod 1000000 = q % 1000000 := Int.tmod_eq_emod_of_nonneg hq0
      have hqq : 0 ≤ q / 1000000 ∧ q / 1000000 < q := by omega
      have bO7 := bO2.alloc (.cells #[.int .u64 (q % 1000000)] 83)
      have bR7 := bR2.alloc (.cells #[.int .u64 (q % 1000000)] 83)
      have HO7 := Lib.hid (HO.out.alloc (.cells #[.int .u64 (q % 1000000)] 83))
      have HV7 := Lib.hid (digV_at wr wr.heap.size (q % 1000000) rfl)
      have hz7 : w.heap.size + 2 ≤ (wr.alloc (.cells #[.int .u64 (q % 1000000)] 83)).heap.size := by simp; omega
      have hb7 := hb.alloc hb.size (.cells #[.int .u64 (q % 1000000)] 83)
      go_wp2_with (at_builtin; refine wpList_append_g hkD (by decide) 71 83 i0 _ 8 Tryz.underlying71 HI.out HZ0.out HZ1.out HZ2.out rfl _ rfl _ _ rfl (w.heap.size + 2) _ _ L [q % 1000000] rfl rfl HO7.out HV7.out (one_dig _) (by unfold maxLen; simp only [List.length_singleton]; omega) (by simp only [List.length_singleton]; omega) hz7 ?_; intro v8 w8 ho8 hg8; obtain ⟨A8, c8, rfl⟩ := own_shape ho8; have bO8 : Blk w8 (w.heap.size + 1) _ 73 := (hg8.block (w.heap.size + 1) (by simp; omega) (fun e => absurd (OwnG.lt HO7.out _ e.symm).1 (by omega))).trans bO7; have bR8 : Blk w8 w.heap.size _ 73 := (hg8.block w.heap.size (by simp; omega) (fun e => absurd (OwnG.lt HO7.out _ e.symm).1 (by omega))).trans bR7; have d1 := bO8.cell 1; have g1 := bO8.frozen 1; simp only [List.getElem?_toArray, List.getElem?_cons_zero, List.getElem?_cons_succ] at d1)
      refine ⟨⟨L ++ [q % 1000000], q / 1000000, rfl, hnext, ((hb7.trans ((OwnG.grown HO7.out hz7 hg8).mono (by omega))).setCell (by simp) _), bR8.setOther (by omega) _ _, _, by simpa using bO8.set 1 _, OwnDig.setOther (by simpa using ho8) (by omega) _ _⟩, ?_⟩
      simp only [intOf]
      omega
    · obtain rfl : q = 0 := by omega
      have hd := Lib.hid hinv.out.done
      obtain ⟨A, c, rfl⟩ := own_shape HO.out
      have r0 := bR2.cell 0
      have r1 := bR2.cell 1
      have g0 := bR2.frozen 0
      have g1 := bR2.frozen 1
      simp only [List.getElem?_toArray, List.getElem?_cons_zero, List.getElem?_cons_succ] at r0 r1
      clear hinv
      go_wp2_with fail
      have bF := (bR2.set 0 (.bool false)).set 1 (.slice A L.length c)
      have d0 := bF.cell 0
      have d1 := bF.cell 1
      simp only [List.setIfInBounds_toArray, List.set_cons_zero, List.set_cons_succ, List.getElem?_toArray, List.getElem?_cons_zero, List.getElem?_cons_succ] at d0 d1
      refine bodyPost_ret (v := .agg #[.bool false, .slice A L.length c]) (by simp [results, Tryz.results96, go_sem, d0, d1]) rfl ⟨A, c, L, rfl, ?_, hd.out.1, hd.out.2, ((hb.setCell (by simp) _).setCell (by simp) _)⟩
      exact OwnDig.dig (OwnDig.setOther (OwnDig.setOther HO.out (by omega) _ _) (by omega) _ _) (by omega)

end Go.Proofs.YtippffjhkinfoaaGreatDoor
