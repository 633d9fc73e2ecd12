/-
  The reference's Apply, at any values.
-/
import Derived.Test.YtippffjhkinfoaaGreatDoorRefX
import Derived.Test.YtippffjhkinfoaaGreatDoorValidAll
namespace Go.Proofs.YtippffjhkinfoaaGreatDoor
open Go.RowKit

set_option maxRecDepth 100000 in
set_option maxHeartbeats 8000000 in
theorem refApply_none (op : Int) (L : List Dat) (v : Value) (w : World) (hv : DatV w v L) (hm : arityR op = 0) :
    Calls Tryz.prog 9 #[.int .i64 op, v] w (ResPost 0 0 1 w) := by
  obtain ⟨A, c, rfl, _, _⟩ := hv.len
  have HM := Lib.hid (fun w => many_any op w)
  rw [hm] at HM
  clear hm hv
  have hb0 := (Below.refl w.heap.size w).alloc (Nat.le_refl _) (.cells #[.int .i64 0, .int .i64 0, .string noText] 27)
  have bR := Blk.new w #[.int .i64 0, .int .i64 0, .string noText] 27
  go_enter Tryz.func9, Tryz.ntmps9
  go_wp2_with (go_at_call 21; (with_reducible refine (HM.out _).mono ?_); rintro e w' ⟨rfl, rfl⟩; have r0 := bR.cell 0; have r1 := bR.cell 1; have r2 := bR.cell 2; have f0 := bR.frozen 0; have f1 := bR.frozen 1; have f2 := bR.frozen 2; simp only [List.getElem?_toArray, List.getElem?_cons_zero, List.getElem?_cons_succ] at r0 r1 r2)
  refine bodyPost_ret (v := .tuple #[.agg #[.int .i64 0, .int .i64 0, .string noText], .int .i64 1]) ?_ rfl ⟨rfl, ?_⟩
  · simp [results, Tryz.results9, go_sem]
  · exact (Below.refl _ _).alloc (Nat.le_refl _) _

set_option maxRecDepth 100000 in
set_option maxHeartbeats 8000000 in
theorem refApply_len (op : Int) (L : List Dat) (v : Value) (w : World) (hv : DatV w v L) (hm : arityR op ≠ 0) (hl : (L.length : Int) ≠ arityR op) :
    Calls Tryz.prog 9 #[.int .i64 op, v] w (ResPost 0 0 1 w) := by
  obtain ⟨A, c, rfl, _, _⟩ := hv.len
  have HM := Lib.hid (fun w => many_any op w)
  have hm0 : (arityR op == 0) = false := by simpa using hm
  have hm1 : ((L.length : Int) != arityR op) = true := by simpa using hl
  revert HM hm0 hm1
  generalize arityR op = n
  intro HM hm0 hm1
  clear hm hl hv
  have hb0 := (Below.refl w.heap.size w).alloc (Nat.le_refl _) (.cells #[.int .i64 0, .int .i64 0, .string noText] 27)
  have bR := Blk.new w #[.int .i64 0, .int .i64 0, .string noText] 27
  go_enter Tryz.func9, Tryz.ntmps9
  go_wp2_with (go_at_call 21; (with_reducible refine (HM.out _).mono ?_); rintro e w' ⟨rfl, rfl⟩; have r0 := bR.cell 0; have r1 := bR.cell 1; have r2 := bR.cell 2; have f0 := bR.frozen 0; have f1 := bR.frozen 1; have f2 := bR.frozen 2; simp only [List.getElem?_toArray, List.getElem?_cons_zero, List.getElem?_cons_succ] at r0 r1 r2)
  refine bodyPost_ret (v := .tuple #[.agg #[.int .i64 0, .int .i64 0, .string noText], .int .i64 1]) ?_ rfl ⟨rfl, ?_⟩
  · simp [results, Tryz.results9, go_sem]
  · exact (Below.refl _ _).alloc (Nat.le_refl _) _

set_option maxRecDepth 100000 in
set_option maxHeartbeats 8000000 in
theorem refApply_bad (op : Int) (L : List Dat) (v : Value) (w : World) (hv : DatV w v L) (h0 : 0 < L.length) (hl : (L.length : Int) = arityR op) (ha : L.all rightD = false) :
    Calls Tryz.prog 9 #[.int .i64 op, v] w (ResPost 0 0 1 w) := by
  obtain ⟨A, c, rfl, hc, hm⟩ := hv.len
  have HM := Lib.hid (fun w => many_any op w)
  rw [← hl] at HM
  have hm0 : ((L.length : Int) == 0) = false := beq_eq_false_iff_ne.2 (by omega)
  have HV := Lib.hid hv
  have HA := Lib.hid ha
  clear hv hl h0 ha
  unfold maxLen at hm
  have hb0 := (Below.refl w.heap.size w).alloc (Nat.le_refl _) (.cells #[.int .i64 0, .int .i64 0, .string noText] 27)
  have bR := Blk.new w #[.int .i64 0, .int .i64 0, .string noText] 27
  go_enter Tryz.func9, Tryz.ntmps9
  go_wp2_with (go_at_call 21; (with_reducible refine (HM.out _).mono ?_); rintro e w' ⟨rfl, rfl⟩)
  go_loopw [21] (fun i wr => ∃ n : Nat, i = .int .i64 n ∧ n ≤ L.length ∧ Hid ((L.take n).all rightD = true) ∧ Below w.heap.size w wr ∧ Blk wr w.heap.size #[.int .i64 0, .int .i64 0, .string noText] 27) (fun i _ => L.length - (intOf i).toNat)
  case atStart => exact ⟨0, rfl, Nat.zero_le _, rfl, hb0, bR⟩
  case round =>
    clear hb0 bR
    obtain ⟨n, rfl, hn, HN, hb, bR⟩ := hrel
    by_cases hlt : n < L.length
    · rcases HV.out with ⟨_, h0⟩ | ⟨b, off, c', e, _, hbl, hat, _⟩
      · rw [h0] at hlt; simp at hlt
      · injection e with e1 e2 e3
        subst e1 e3
        obtain ⟨h0, h1, h2⟩ := (hat.block (hb.block b hbl)).dat n hlt
        have HP : Hid (rightD L[n] = true → (L.take (n + 1)).all rightD = true) := fun hp => all_take hlt HN.out hp
        have HE : Hid (L[n] ∈ L) := List.getElem_mem hlt
        clear hat hbl hn HN
        revert HP HE h0 h1 h2
        generalize L[n] = d
        obtain ⟨dk, di, ds⟩ := d
        intro h0 h1 h2 HP HE
        simp only at h0 h1 h2
        have hz := hb.size
        have hn1 : (n : Int) + 1 ≤ 9223372036854775807 := by omega
        have HR := Lib.hid (fun w => refRight_any dk di ds w)
        have bRo := bR.alloc (.cells #[.int .i64 dk, .int .i64 di, .string ds] 27)
        have hbo := hb.alloc hz (.cells #[.int .i64 dk, .int .i64 di, .string ds] 27)
        clear HM
        cases hd : rightD ⟨dk, di, ds⟩
        · rw [hd] at HR
          clear hd HP HA HE
          go_wp2_with (go_at_call 14; (with_reducible refine (HR.out _).mono ?_); rintro e w5 ⟨rfl, hb5⟩; have bR5 := bRo.below hb5; have h5 := hbo.trans (hb5.mono hbo.size); have r0 := bR5.cell 0; have r1 := bR5.cell 1; have r2 := bR5.cell 2; have f0 := bR5.frozen 0; have f1 := bR5.frozen 1; have f2 := bR5.frozen 2; simp only [List.getElem?_toArray, List.getElem?_cons_zero, List.getElem?_cons_succ] at r0 r1 r2)
          refine bodyPost_ret ?_ rfl ⟨rfl, ?_⟩
          · simp [results, Tryz.results9, go_sem, r0, r1, r2]
          · exact (((h5.setCell (by simp; try omega) _).setCell (by simp; try omega) _).setCell (by simp; try omega) _)

        · rw [hd] at HR
          have HQ := Lib.hid (HP.out hd)
          clear hd HP HA HE
          go_wp2_with (go_at_call 14; (with_reducible refine (HR.out _).mono ?_); rintro e w5 ⟨rfl, hb5⟩; have bR5 := bRo.below hb5; have h5 := hbo.trans (hb5.mono hbo.size))
          refine ⟨⟨n + 1, by go_num, hlt, HQ, h5, bR5⟩, ?_⟩
          simp [intOf]
          go_num
    · have := HN.out
      rw [List.take_of_length_le (by omega), HA.out] at this
      cases this
set_option maxRecDepth 100000 in
set_option maxHeartbeats 8000000 in
theorem refApply_logic (op : Int) (hop : op = 2 ∨ op = 13 ∨ op = 14) (L : List Dat) (v : Value) (w : World) (hv : DatV w v L) (h0 : 0 < L.length) (hl : (L.length : Int) = arityR op) (ha : L.all rightD = true) (t : Tri) (HP : Hid (∀ w', Below w.heap.size w w' → Calls Tryz.prog 22 #[.int .i64 op, v] w' (ResT t w'))) :
    Calls Tryz.prog 9 #[.int .i64 op, v] w (ResT t w) := by
  obtain ⟨A, c, rfl, hc, hm⟩ := hv.len
  have HM := Lib.hid (fun w => many_any op w)
  rw [← hl] at HM
  have hm0 : ((L.length : Int) == 0) = false := beq_eq_false_iff_ne.2 (by omega)
  have HV := Lib.hid hv
  have HA := Lib.hid ha
  clear hv hl h0 ha
  unfold maxLen at hm
  have hb0 := (Below.refl w.heap.size w).alloc (Nat.le_refl _) (.cells #[.int .i64 0, .int .i64 0, .string noText] 27)
  have bR := Blk.new w #[.int .i64 0, .int .i64 0, .string noText] 27
  go_enter Tryz.func9, Tryz.ntmps9
  go_wp2_with (go_at_call 21; (with_reducible refine (HM.out _).mono ?_); rintro e w' ⟨rfl, rfl⟩)
  go_loopw [21] (fun i wr => ∃ n : Nat, i = .int .i64 n ∧ n ≤ L.length ∧ Hid ((L.take n).all rightD = true) ∧ Below w.heap.size w wr ∧ Blk wr w.heap.size #[.int .i64 0, .int .i64 0, .string noText] 27) (fun i _ => L.length - (intOf i).toNat)
  case atStart => exact ⟨0, rfl, Nat.zero_le _, rfl, hb0, bR⟩
  case round =>
    clear hb0 bR
    obtain ⟨n, rfl, hn, HN, hb, bR⟩ := hrel
    by_cases hlt : n < L.length
    · rcases HV.out with ⟨_, h0⟩ | ⟨b, off, c', e, _, hbl, hat, _⟩
      · rw [h0] at hlt; simp at hlt
      · injection e with e1 e2 e3
        subst e1 e3
        obtain ⟨h0, h1, h2⟩ := (hat.block (hb.block b hbl)).dat n hlt
        have HP : Hid (rightD L[n] = true → (L.take (n + 1)).all rightD = true) := fun hp => all_take hlt HN.out hp
        have HE : Hid (L[n] ∈ L) := List.getElem_mem hlt
        clear hat hbl hn HN
        revert HP HE h0 h1 h2
        generalize L[n] = d
        obtain ⟨dk, di, ds⟩ := d
        intro h0 h1 h2 HP HE
        simp only at h0 h1 h2
        have hz := hb.size
        have hn1 : (n : Int) + 1 ≤ 9223372036854775807 := by omega
        have HR := Lib.hid (fun w => refRight_any dk di ds w)
        have bRo := bR.alloc (.cells #[.int .i64 dk, .int .i64 di, .string ds] 27)
        have hbo := hb.alloc hz (.cells #[.int .i64 dk, .int .i64 di, .string ds] 27)
        clear HM
        cases hd : rightD ⟨dk, di, ds⟩
        · have := List.all_eq_true.1 HA.out _ HE.out
          rw [hd] at this
          cases this
        · rw [hd] at HR
          have HQ := Lib.hid (HP.out hd)
          clear hd HP HA HE
          go_wp2_with (go_at_call 14; (with_reducible refine (HR.out _).mono ?_); rintro e w5 ⟨rfl, hb5⟩; have bR5 := bRo.below hb5; have h5 := hbo.trans (hb5.mono hbo.size))
          refine ⟨⟨n + 1, by go_num, hlt, HQ, h5, bR5⟩, ?_⟩
          simp [intOf]
          go_num
    · clear HN HA HM
      rcases hop with rfl | rfl | rfl
      all_goals
        go_wp2_with (go_at_call 22; have hC := HP.out _ hb; (with_reducible refine hC.mono ?_); clear hC; rintro e w7 ⟨rfl, hb7⟩; have bR7 := bR.below hb7; have h7 := hb.trans (hb7.mono hb.size); have r0 := bR7.cell 0; have r1 := bR7.cell 1; have r2 := bR7.cell 2; have f0 := bR7.frozen 0; have f1 := bR7.frozen 1; have f2 := bR7.frozen 2; simp only [List.getElem?_toArray, List.getElem?_cons_zero, List.getElem?_cons_succ] at r0 r1 r2)
        refine bodyPost_ret ?_ rfl ⟨rfl, ?_⟩
        · simp [results, Tryz.results9, go_sem, r0, r1, r2]
        · exact (((h7.setCell (by simp; try omega) _).setCell (by simp; try omega) _).setCell (by simp; try omega) _)

set_option maxRecDepth 100000 in
set_option maxHeartbeats 8000000 in
theorem refApply_cmp (op : Int) (hop : op = 7 ∨ op = 8 ∨ op = 9 ∨ op = 10 ∨ op = 11 ∨ op = 12) (L : List Dat) (v : Value) (w : World) (hv : DatV w v L) (h0 : 0 < L.length) (hl : (L.length : Int) = arityR op) (ha : L.all rightD = true) (t : Tri) (HP : Hid (∀ w', Below w.heap.size w w' → Calls Tryz.prog 24 #[.int .i64 op, v] w' (ResT t w'))) :
    Calls Tryz.prog 9 #[.int .i64 op, v] w (ResT t w) := by
  obtain ⟨A, c, rfl, hc, hm⟩ := hv.len
  have HM := Lib.hid (fun w => many_any op w)
  rw [← hl] at HM
  have hm0 : ((L.length : Int) == 0) = false := beq_eq_false_iff_ne.2 (by omega)
  have HV := Lib.hid hv
  have HA := Lib.hid ha
  clear hv hl h0 ha
  unfold maxLen at hm
  have hb0 := (Below.refl w.heap.size w).alloc (Nat.le_refl _) (.cells #[.int .i64 0, .int .i64 0, .string noText] 27)
  have bR := Blk.new w #[.int .i64 0, .int .i64 0, .string noText] 27
  go_enter Tryz.func9, Tryz.ntmps9
  go_wp2_with (go_at_call 21; (with_reducible refine (HM.out _).mono ?_); rintro e w' ⟨rfl, rfl⟩)
  go_loopw [21] (fun i wr => ∃ n : Nat, i = .int .i64 n ∧ n ≤ L.length ∧ Hid ((L.take n).all rightD = true) ∧ Below w.heap.size w wr ∧ Blk wr w.heap.size #[.int .i64 0, .int .i64 0, .string noText] 27) (fun i _ => L.length - (intOf i).toNat)
  case atStart => exact ⟨0, rfl, Nat.zero_le _, rfl, hb0, bR⟩
  case round =>
    clear hb0 bR
    obtain ⟨n, rfl, hn, HN, hb, bR⟩ := hrel
    by_cases hlt : n < L.length
    · rcases HV.out with ⟨_, h0⟩ | ⟨b, off, c', e, _, hbl, hat, _⟩
      · rw [h0] at hlt; simp at hlt
      · injection e with e1 e2 e3
        subst e1 e3
        obtain ⟨h0, h1, h2⟩ := (hat.block (hb.block b hbl)).dat n hlt
        have HP : Hid (rightD L[n] = true → (L.take (n + 1)).all rightD = true) := fun hp => all_take hlt HN.out hp
        have HE : Hid (L[n] ∈ L) := List.getElem_mem hlt
        clear hat hbl hn HN
        revert HP HE h0 h1 h2
        generalize L[n] = d
        obtain ⟨dk, di, ds⟩ := d
        intro h0 h1 h2 HP HE
        simp only at h0 h1 h2
        have hz := hb.size
        have hn1 : (n : Int) + 1 ≤ 9223372036854775807 := by omega
        have HR := Lib.hid (fun w => refRight_any dk di ds w)
        have bRo := bR.alloc (.cells #[.int .i64 dk, .int .i64 di, .string ds] 27)
        have hbo := hb.alloc hz (.cells #[.int .i64 dk, .int .i64 di, .string ds] 27)
        clear HM
        cases hd : rightD ⟨dk, di, ds⟩
        · have := List.all_eq_true.1 HA.out _ HE.out
          rw [hd] at this
          cases this
        · rw [hd] at HR
          have HQ := Lib.hid (HP.out hd)
          clear hd HP HA HE
          go_wp2_with (go_at_call 14; (with_reducible refine (HR.out _).mono ?_); rintro e w5 ⟨rfl, hb5⟩; have bR5 := bRo.below hb5; have h5 := hbo.trans (hb5.mono hbo.size))
          refine ⟨⟨n + 1, by go_num, hlt, HQ, h5, bR5⟩, ?_⟩
          simp [intOf]
          go_num
    · clear HN HA HM
      rcases hop with rfl | rfl | rfl | rfl | rfl | rfl
      all_goals
        go_wp2_with (go_at_call 24; have hC := HP.out _ hb; (with_reducible refine hC.mono ?_); clear hC; rintro e w7 ⟨rfl, hb7⟩; have bR7 := bR.below hb7; have h7 := hb.trans (hb7.mono hb.size); have r0 := bR7.cell 0; have r1 := bR7.cell 1; have r2 := bR7.cell 2; have f0 := bR7.frozen 0; have f1 := bR7.frozen 1; have f2 := bR7.frozen 2; simp only [List.getElem?_toArray, List.getElem?_cons_zero, List.getElem?_cons_succ] at r0 r1 r2)
        refine bodyPost_ret ?_ rfl ⟨rfl, ?_⟩
        · simp [results, Tryz.results9, go_sem, r0, r1, r2]
        · exact (((h7.setCell (by simp; try omega) _).setCell (by simp; try omega) _).setCell (by simp; try omega) _)

set_option maxRecDepth 100000 in
set_option maxHeartbeats 8000000 in
theorem refApply_arith (op : Int) (hop : op = 1 ∨ op = 3 ∨ op = 4 ∨ op = 5 ∨ op = 6 ∨ op = 19 ∨ op = 20) (L : List Dat) (v : Value) (w : World) (hv : DatV w v L) (h0 : 0 < L.length) (hl : (L.length : Int) = arityR op) (ha : L.all rightD = true) (t : Tri) (ho : onlyR 2 3 L = true) (HP : Hid (∀ w', Below w.heap.size w w' → Calls Tryz.prog 26 #[.int .i64 op, v] w' (ResT t w'))) :
    Calls Tryz.prog 9 #[.int .i64 op, v] w (ResT t w) := by
  obtain ⟨A, c, rfl, hc, hm⟩ := hv.len
  have HM := Lib.hid (fun w => many_any op w)
  rw [← hl] at HM
  have hm0 : ((L.length : Int) == 0) = false := beq_eq_false_iff_ne.2 (by omega)
  have HV := Lib.hid hv
  have HA := Lib.hid ha
  have HO := Lib.hid (fun w' (hb : Below w.heap.size w w') => only_any 2 3 L _ w' (hv.below hb))
  clear hv hl h0 ha
  unfold maxLen at hm
  have hb0 := (Below.refl w.heap.size w).alloc (Nat.le_refl _) (.cells #[.int .i64 0, .int .i64 0, .string noText] 27)
  have bR := Blk.new w #[.int .i64 0, .int .i64 0, .string noText] 27
  go_enter Tryz.func9, Tryz.ntmps9
  go_wp2_with (go_at_call 21; (with_reducible refine (HM.out _).mono ?_); rintro e w' ⟨rfl, rfl⟩)
  go_loopw [21] (fun i wr => ∃ n : Nat, i = .int .i64 n ∧ n ≤ L.length ∧ Hid ((L.take n).all rightD = true) ∧ Below w.heap.size w wr ∧ Blk wr w.heap.size #[.int .i64 0, .int .i64 0, .string noText] 27) (fun i _ => L.length - (intOf i).toNat)
  case atStart => exact ⟨0, rfl, Nat.zero_le _, rfl, hb0, bR⟩
  case round =>
    clear hb0 bR
    obtain ⟨n, rfl, hn, HN, hb, bR⟩ := hrel
    by_cases hlt : n < L.length
    · rcases HV.out with ⟨_, h0⟩ | ⟨b, off, c', e, _, hbl, hat, _⟩
      · rw [h0] at hlt; simp at hlt
      · injection e with e1 e2 e3
        subst e1 e3
        obtain ⟨h0, h1, h2⟩ := (hat.block (hb.block b hbl)).dat n hlt
        have HP : Hid (rightD L[n] = true → (L.take (n + 1)).all rightD = true) := fun hp => all_take hlt HN.out hp
        have HE : Hid (L[n] ∈ L) := List.getElem_mem hlt
        clear hat hbl hn HN
        revert HP HE h0 h1 h2
        generalize L[n] = d
        obtain ⟨dk, di, ds⟩ := d
        intro h0 h1 h2 HP HE
        simp only at h0 h1 h2
        have hz := hb.size
        have hn1 : (n : Int) + 1 ≤ 9223372036854775807 := by omega
        have HR := Lib.hid (fun w => refRight_any dk di ds w)
        have bRo := bR.alloc (.cells #[.int .i64 dk, .int .i64 di, .string ds] 27)
        have hbo := hb.alloc hz (.cells #[.int .i64 dk, .int .i64 di, .string ds] 27)
        clear HM
        cases hd : rightD ⟨dk, di, ds⟩
        · have := List.all_eq_true.1 HA.out _ HE.out
          rw [hd] at this
          cases this
        · rw [hd] at HR
          have HQ := Lib.hid (HP.out hd)
          clear hd HP HA HE
          go_wp2_with (go_at_call 14; (with_reducible refine (HR.out _).mono ?_); rintro e w5 ⟨rfl, hb5⟩; have bR5 := bRo.below hb5; have h5 := hbo.trans (hb5.mono hbo.size))
          refine ⟨⟨n + 1, by go_num, hlt, HQ, h5, bR5⟩, ?_⟩
          simp [intOf]
          go_num
    · clear HN HA HM
      rcases hop with rfl | rfl | rfl | rfl | rfl | rfl | rfl
      all_goals
        rw [ho] at HO
        go_wp2_with (first
          | (go_at_call 25; have hC := HO.out _ hb; (with_reducible refine hC.mono ?_); clear hC; rintro e w6 ⟨rfl, hb6⟩; have bR6 := bR.below hb6; have h6 := hb.trans (hb6.mono hb.size))
          | (go_at_call 26; have hC := HP.out _ h6; (with_reducible refine hC.mono ?_); clear hC; rintro e w7 ⟨rfl, hb7⟩; have bR7 := bR6.below hb7; have h7 := h6.trans (hb7.mono h6.size); have r0 := bR7.cell 0; have r1 := bR7.cell 1; have r2 := bR7.cell 2; have f0 := bR7.frozen 0; have f1 := bR7.frozen 1; have f2 := bR7.frozen 2; simp only [List.getElem?_toArray, List.getElem?_cons_zero, List.getElem?_cons_succ] at r0 r1 r2))
        refine bodyPost_ret ?_ rfl ⟨rfl, ?_⟩
        · simp [results, Tryz.results9, go_sem, r0, r1, r2]
        · exact (((h7.setCell (by simp; try omega) _).setCell (by simp; try omega) _).setCell (by simp; try omega) _)

set_option maxRecDepth 100000 in
set_option maxHeartbeats 8000000 in
theorem refApply_kind (op : Int) (hop : op = 1 ∨ op = 3 ∨ op = 4 ∨ op = 5 ∨ op = 6 ∨ op = 19 ∨ op = 20) (L : List Dat) (v : Value) (w : World) (hv : DatV w v L) (h0 : 0 < L.length) (hl : (L.length : Int) = arityR op) (ha : L.all rightD = true) (ho : onlyR 2 3 L = false) :
    Calls Tryz.prog 9 #[.int .i64 op, v] w (ResPost 0 0 5 w) := by
  obtain ⟨A, c, rfl, hc, hm⟩ := hv.len
  have HM := Lib.hid (fun w => many_any op w)
  rw [← hl] at HM
  have hm0 : ((L.length : Int) == 0) = false := beq_eq_false_iff_ne.2 (by omega)
  have HV := Lib.hid hv
  have HA := Lib.hid ha
  have HO := Lib.hid (fun w' (hb : Below w.heap.size w w') => only_any 2 3 L _ w' (hv.below hb))
  clear hv hl h0 ha
  unfold maxLen at hm
  have hb0 := (Below.refl w.heap.size w).alloc (Nat.le_refl _) (.cells #[.int .i64 0, .int .i64 0, .string noText] 27)
  have bR := Blk.new w #[.int .i64 0, .int .i64 0, .string noText] 27
  go_enter Tryz.func9, Tryz.ntmps9
  go_wp2_with (go_at_call 21; (with_reducible refine (HM.out _).mono ?_); rintro e w' ⟨rfl, rfl⟩)
  go_loopw [21] (fun i wr => ∃ n : Nat, i = .int .i64 n ∧ n ≤ L.length ∧ Hid ((L.take n).all rightD = true) ∧ Below w.heap.size w wr ∧ Blk wr w.heap.size #[.int .i64 0, .int .i64 0, .string noText] 27) (fun i _ => L.length - (intOf i).toNat)
  case atStart => exact ⟨0, rfl, Nat.zero_le _, rfl, hb0, bR⟩
  case round =>
    clear hb0 bR
    obtain ⟨n, rfl, hn, HN, hb, bR⟩ := hrel
    by_cases hlt : n < L.length
    · rcases HV.out with ⟨_, h0⟩ | ⟨b, off, c', e, _, hbl, hat, _⟩
      · rw [h0] at hlt; simp at hlt
      · injection e with e1 e2 e3
        subst e1 e3
        obtain ⟨h0, h1, h2⟩ := (hat.block (hb.block b hbl)).dat n hlt
        have HP : Hid (rightD L[n] = true → (L.take (n + 1)).all rightD = true) := fun hp => all_take hlt HN.out hp
        have HE : Hid (L[n] ∈ L) := List.getElem_mem hlt
        clear hat hbl hn HN
        revert HP HE h0 h1 h2
        generalize L[n] = d
        obtain ⟨dk, di, ds⟩ := d
        intro h0 h1 h2 HP HE
        simp only at h0 h1 h2
        have hz := hb.size
        have hn1 : (n : Int) + 1 ≤ 9223372036854775807 := by omega
        have HR := Lib.hid (fun w => refRight_any dk di ds w)
        have bRo := bR.alloc (.cells #[.int .i64 dk, .int .i64 di, .string ds] 27)
        have hbo := hb.alloc hz (.cells #[.int .i64 dk, .int .i64 di, .string ds] 27)
        clear HM
        cases hd : rightD ⟨dk, di, ds⟩
        · have := List.all_eq_true.1 HA.out _ HE.out
          rw [hd] at this
          cases this
        · rw [hd] at HR
          have HQ := Lib.hid (HP.out hd)
          clear hd HP HA HE
          go_wp2_with (go_at_call 14; (with_reducible refine (HR.out _).mono ?_); rintro e w5 ⟨rfl, hb5⟩; have bR5 := bRo.below hb5; have h5 := hbo.trans (hb5.mono hbo.size))
          refine ⟨⟨n + 1, by go_num, hlt, HQ, h5, bR5⟩, ?_⟩
          simp [intOf]
          go_num
    · clear HN HA HM
      rcases hop with rfl | rfl | rfl | rfl | rfl | rfl | rfl
      all_goals
        rw [ho] at HO
        go_wp2_with (go_at_call 25; have hC := HO.out _ hb; (with_reducible refine hC.mono ?_); clear hC; rintro e w6 ⟨rfl, hb6⟩; have bR6 := bR.below hb6; have h6 := hb.trans (hb6.mono hb.size); have r0 := bR6.cell 0; have r1 := bR6.cell 1; have r2 := bR6.cell 2; have f0 := bR6.frozen 0; have f1 := bR6.frozen 1; have f2 := bR6.frozen 2; simp only [List.getElem?_toArray, List.getElem?_cons_zero, List.getElem?_cons_succ] at r0 r1 r2)
        refine bodyPost_ret ?_ rfl ⟨rfl, ?_⟩
        · simp [results, Tryz.results9, go_sem, r0, r1, r2]
        · exact (((h6.setCell (by simp; try omega) _).setCell (by simp; try omega) _).setCell (by simp; try omega) _)

set_option maxRecDepth 100000 in
set_option maxHeartbeats 8000000 in
theorem refApply_length (op : Int) (hop : op = 18) (L : List Dat) (v : Value) (w : World) (hv : DatV w v L) (a : Dat) (hL : L = [a]) (h0 : 0 < L.length) (hl : (L.length : Int) = arityR op) (ha : L.all rightD = true) (t : Tri) (HP : Hid (∀ w', Calls Tryz.prog 23 #[datVal a] w' (ResT t w'))) :
    Calls Tryz.prog 9 #[.int .i64 op, v] w (ResT t w) := by
  obtain ⟨A, c, rfl, hc, hm⟩ := hv.len
  have HM := Lib.hid (fun w => many_any op w)
  rw [← hl] at HM
  have hm0 : ((L.length : Int) == 0) = false := beq_eq_false_iff_ne.2 (by omega)
  have HV := Lib.hid hv
  have HA := Lib.hid ha
  have HL := Lib.hid hL
  have HOP := Lib.hid hop
  clear hv hl h0 ha hL hop
  unfold maxLen at hm
  have hb0 := (Below.refl w.heap.size w).alloc (Nat.le_refl _) (.cells #[.int .i64 0, .int .i64 0, .string noText] 27)
  have bR := Blk.new w #[.int .i64 0, .int .i64 0, .string noText] 27
  go_enter Tryz.func9, Tryz.ntmps9
  go_wp2_with (go_at_call 21; (with_reducible refine (HM.out _).mono ?_); rintro e w' ⟨rfl, rfl⟩)
  go_loopw [21] (fun i wr => ∃ n : Nat, i = .int .i64 n ∧ n ≤ L.length ∧ Hid ((L.take n).all rightD = true) ∧ Below w.heap.size w wr ∧ Blk wr w.heap.size #[.int .i64 0, .int .i64 0, .string noText] 27) (fun i _ => L.length - (intOf i).toNat)
  case atStart => exact ⟨0, rfl, Nat.zero_le _, rfl, hb0, bR⟩
  case round =>
    clear hb0 bR
    obtain ⟨n, rfl, hn, HN, hb, bR⟩ := hrel
    by_cases hlt : n < L.length
    · rcases HV.out with ⟨_, h0⟩ | ⟨b, off, c', e, _, hbl, hat, _⟩
      · rw [h0] at hlt; simp at hlt
      · injection e with e1 e2 e3
        subst e1 e3
        obtain ⟨h0, h1, h2⟩ := (hat.block (hb.block b hbl)).dat n hlt
        have HP : Hid (rightD L[n] = true → (L.take (n + 1)).all rightD = true) := fun hp => all_take hlt HN.out hp
        have HE : Hid (L[n] ∈ L) := List.getElem_mem hlt
        clear hat hbl hn HN
        revert HP HE h0 h1 h2
        generalize L[n] = d
        obtain ⟨dk, di, ds⟩ := d
        intro h0 h1 h2 HP HE
        simp only at h0 h1 h2
        have hz := hb.size
        have hn1 : (n : Int) + 1 ≤ 9223372036854775807 := by omega
        have HR := Lib.hid (fun w => refRight_any dk di ds w)
        have bRo := bR.alloc (.cells #[.int .i64 dk, .int .i64 di, .string ds] 27)
        have hbo := hb.alloc hz (.cells #[.int .i64 dk, .int .i64 di, .string ds] 27)
        clear HM
        cases hd : rightD ⟨dk, di, ds⟩
        · have := List.all_eq_true.1 HA.out _ HE.out
          rw [hd] at this
          cases this
        · rw [hd] at HR
          have HQ := Lib.hid (HP.out hd)
          clear hd HP HA HE
          go_wp2_with (go_at_call 14; (with_reducible refine (HR.out _).mono ?_); rintro e w5 ⟨rfl, hb5⟩; have bR5 := bRo.below hb5; have h5 := hbo.trans (hb5.mono hbo.size))
          refine ⟨⟨n + 1, by go_num, hlt, HQ, h5, bR5⟩, ?_⟩
          simp [intOf]
          go_num
    · clear HN HA HM
      have hop := HOP.out
      subst hop
      have hL := HL.out
      rcases HV.out with ⟨_, q0⟩ | ⟨b, off, c', e, _, hbl, hat, _⟩
      · rw [hL] at q0; cases q0
      · injection e with e1 e2 e3
        subst e1 e3
        have hlt0 : 0 < L.length := by rw [hL]; simp
        obtain ⟨x0, x1, x2⟩ := (hat.block (hb.block b hbl)).dat 0 hlt0
        have e0 : L[0] = a := by simp [hL]
        rw [e0] at x0 x1 x2
        simp only [Nat.zero_mul, Nat.add_zero] at x0 x1 x2
        have hl1 : L.length = 1 := by rw [hL]; rfl
        have hc1 : (1 : Int) ≤ c := by omega
        obtain rfl : n = 1 := by omega
        rw [hl1]
        clear hat e0 HV hL hl1 hlt hn hlt0
        go_wp2_with (go_at_call 23; (with_reducible refine (HP.out _).mono ?_); rintro e w7 ⟨rfl, hb7⟩; have bR7 := bR.below hb7; have h7 := hb.trans (hb7.mono hb.size); have r0 := bR7.cell 0; have r1 := bR7.cell 1; have r2 := bR7.cell 2; have f0 := bR7.frozen 0; have f1 := bR7.frozen 1; have f2 := bR7.frozen 2; simp only [List.getElem?_toArray, List.getElem?_cons_zero, List.getElem?_cons_succ] at r0 r1 r2)
        refine bodyPost_ret ?_ rfl ⟨rfl, ?_⟩
        · simp [results, Tryz.results9, go_sem, r0, r1, r2]
        · exact (((h7.setCell (by simp; try omega) _).setCell (by simp; try omega) _).setCell (by simp; try omega) _)

set_option maxRecDepth 100000 in
set_option maxHeartbeats 8000000 in
theorem refApply_isnull (op : Int) (hop : op = 15) (L : List Dat) (v : Value) (w : World) (hv : DatV w v L) (a : Dat) (hL : L = [a]) (h0 : 0 < L.length) (hl : (L.length : Int) = arityR op) (ha : L.all rightD = true) :
    Calls Tryz.prog 9 #[.int .i64 op, v] w (ResT (1, bitOf (a.k == 0), 0) w) := by
  obtain ⟨A, c, rfl, hc, hm⟩ := hv.len
  have HM := Lib.hid (fun w => many_any op w)
  rw [← hl] at HM
  have hm0 : ((L.length : Int) == 0) = false := beq_eq_false_iff_ne.2 (by omega)
  have HV := Lib.hid hv
  have HA := Lib.hid ha
  have HL := Lib.hid hL
  have HOP := Lib.hid hop
  clear hv hl h0 ha hL hop
  unfold maxLen at hm
  have hb0 := (Below.refl w.heap.size w).alloc (Nat.le_refl _) (.cells #[.int .i64 0, .int .i64 0, .string noText] 27)
  have bR := Blk.new w #[.int .i64 0, .int .i64 0, .string noText] 27
  go_enter Tryz.func9, Tryz.ntmps9
  go_wp2_with (go_at_call 21; (with_reducible refine (HM.out _).mono ?_); rintro e w' ⟨rfl, rfl⟩)
  go_loopw [21] (fun i wr => ∃ n : Nat, i = .int .i64 n ∧ n ≤ L.length ∧ Hid ((L.take n).all rightD = true) ∧ Below w.heap.size w wr ∧ Blk wr w.heap.size #[.int .i64 0, .int .i64 0, .string noText] 27) (fun i _ => L.length - (intOf i).toNat)
  case atStart => exact ⟨0, rfl, Nat.zero_le _, rfl, hb0, bR⟩
  case round =>
    clear hb0 bR
    obtain ⟨n, rfl, hn, HN, hb, bR⟩ := hrel
    by_cases hlt : n < L.length
    · rcases HV.out with ⟨_, h0⟩ | ⟨b, off, c', e, _, hbl, hat, _⟩
      · rw [h0] at hlt; simp at hlt
      · injection e with e1 e2 e3
        subst e1 e3
        obtain ⟨h0, h1, h2⟩ := (hat.block (hb.block b hbl)).dat n hlt
        have HP : Hid (rightD L[n] = true → (L.take (n + 1)).all rightD = true) := fun hp => all_take hlt HN.out hp
        have HE : Hid (L[n] ∈ L) := List.getElem_mem hlt
        clear hat hbl hn HN
        revert HP HE h0 h1 h2
        generalize L[n] = d
        obtain ⟨dk, di, ds⟩ := d
        intro h0 h1 h2 HP HE
        simp only at h0 h1 h2
        have hz := hb.size
        have hn1 : (n : Int) + 1 ≤ 9223372036854775807 := by omega
        have HR := Lib.hid (fun w => refRight_any dk di ds w)
        have bRo := bR.alloc (.cells #[.int .i64 dk, .int .i64 di, .string ds] 27)
        have hbo := hb.alloc hz (.cells #[.int .i64 dk, .int .i64 di, .string ds] 27)
        clear HM
        cases hd : rightD ⟨dk, di, ds⟩
        · have := List.all_eq_true.1 HA.out _ HE.out
          rw [hd] at this
          cases this
        · rw [hd] at HR
          have HQ := Lib.hid (HP.out hd)
          clear hd HP HA HE
          go_wp2_with (go_at_call 14; (with_reducible refine (HR.out _).mono ?_); rintro e w5 ⟨rfl, hb5⟩; have bR5 := bRo.below hb5; have h5 := hbo.trans (hb5.mono hbo.size))
          refine ⟨⟨n + 1, by go_num, hlt, HQ, h5, bR5⟩, ?_⟩
          simp [intOf]
          go_num
    · clear HN HA HM
      have hop := HOP.out
      subst hop
      have hL := HL.out
      rcases HV.out with ⟨_, q0⟩ | ⟨b, off, c', e, _, hbl, hat, _⟩
      · rw [hL] at q0; cases q0
      · injection e with e1 e2 e3
        subst e1 e3
        have hlt0 : 0 < L.length := by rw [hL]; simp
        obtain ⟨x0, x1, x2⟩ := (hat.block (hb.block b hbl)).dat 0 hlt0
        have e0 : L[0] = a := by simp [hL]
        rw [e0] at x0 x1 x2
        simp only [Nat.zero_mul, Nat.add_zero] at x0 x1 x2
        have hl1 : L.length = 1 := by rw [hL]; rfl
        have hc1 : (1 : Int) ≤ c := by omega
        obtain rfl : n = 1 := by omega
        rw [hl1]
        clear hat e0 HV hL hl1 hlt hn hlt0
        go_wp2_with (go_at_call 11; (with_reducible refine (refBool_any _ _).mono ?_); rintro e w7 ⟨rfl, hb7⟩; have bR7 := bR.below hb7; have h7 := hb.trans (hb7.mono hb.size); have r0 := bR7.cell 0; have r1 := bR7.cell 1; have r2 := bR7.cell 2; have f0 := bR7.frozen 0; have f1 := bR7.frozen 1; have f2 := bR7.frozen 2; simp only [List.getElem?_toArray, List.getElem?_cons_zero, List.getElem?_cons_succ] at r0 r1 r2)
        refine bodyPost_ret ?_ rfl ⟨rfl, ?_⟩
        · simp [results, Tryz.results9, go_sem, r0, r1, r2, bitOf]
        · exact (((h7.setCell (by simp; try omega) _).setCell (by simp; try omega) _).setCell (by simp; try omega) _)

def partR (op : Int) : List Dat → Tri
  | [a] => oneR op a
  | [a, b] => bothR op a b
  | _ => (0, 0, 1)
theorem appR_eq {op : Int} {L : List Dat} (h0 : arityR op ≠ 0) (hl : (L.length : Int) = arityR op) (ha : L.all rightD = true) : appR op L = partR op L := by
  unfold appR
  rw [if_neg (by rw [ha]; simp; omega)]
  match L with
  | [] => rfl
  | [_] => rfl
  | [_, _] => rfl
  | _ :: _ :: _ :: _ => rfl
theorem only_one (f t : Int) (a : Dat) : onlyR f t [a] = okEl f t a := by
  unfold onlyR
  simp

theorem refApply_one (op : Int) (hop : op = 1 ∨ op = 2 ∨ op = 15 ∨ op = 18 ∨ op = 19 ∨ op = 20) (a : Dat) (v : Value) (w : World) (hv : DatV w v [a]) (ha : rightD a = true) (hI : InI a) :
    Calls Tryz.prog 9 #[.int .i64 op, v] w (ResT (oneR op a) w) := by
  have hA : [a].all rightD = true := by simp [ha]
  have hl : (([a] : List Dat).length : Int) = arityR op := by
    unfold arityR
    rw [if_pos hop]; rfl
  have hn := has_null1 ha
  have hp : 0 < ([a] : List Dat).length := by simp
  have arith : (op = 1 ∨ op = 19 ∨ op = 20) → Calls Tryz.prog 9 #[.int .i64 op, v] w (ResT (unR op a) w) := by
    intro ho
    have hop7 : op = 1 ∨ op = 3 ∨ op = 4 ∨ op = 5 ∨ op = 6 ∨ op = 19 ∨ op = 20 := by omega
    unfold unR
    rw [← only_one]
    cases hk : onlyR 2 3 [a]
    · rw [if_pos rfl]
      exact refApply_kind op hop7 [a] v w hv hp hl hA hk
    · rw [if_neg (by decide)]
      refine refApply_arith op hop7 [a] v w hv hp hl hA _ hk (Lib.hid fun w' hb => ?_)
      by_cases h0 : a.k = 0
      · rw [if_pos h0]
        exact arith_null op [a] v w' (hv.below hb) (by rw [hn]; exact decide_eq_true h0)
      · rw [if_neg h0]
        have hn' : hasR nullD [a] = false := by rw [hn]; exact decide_eq_false h0
        rcases ho with rfl | rfl | rfl
        · rw [if_neg (by decide), if_pos (.inl rfl)]
          exact arith_neg a v w' (hv.below hb) hn' hI
        · rw [if_neg (by decide)]
          by_cases hi : a.i < 0
          · rw [if_pos (.inr hi)]
            exact arith_abs_neg a v w' (hv.below hb) hn' hI hi
          · rw [if_neg (by omega)]
            refine arith_abs_pos a v w' (hv.below hb) hn' hi (right_num ha ?_)
            rw [only_one] at hk
            have := of_decide_eq_true hk
            omega
        · rw [if_pos rfl]
          exact arith_dec a v w' (hv.below hb) hn' hI
  unfold oneR
  rcases hop with rfl | rfl | rfl | rfl | rfl | rfl
  · exact arith (.inl rfl)
  · rw [if_neg (by decide), if_pos rfl, not_eq]
    refine refApply_logic 2 (.inl rfl) [a] v w hv hp hl hA _ (Lib.hid fun w' hb => ?_)
    cases ho : onlyR 1 1 [a]
    · rw [if_pos rfl]
      exact logic_type 2 [a] v w' (hv.below hb) ho
    · rw [if_neg (by decide)]
      exact logic_not a v w' (hv.below hb) ho
  · rw [if_pos rfl]
    exact refApply_isnull 15 rfl [a] v w hv a rfl hp hl hA
  · rw [if_neg (by decide), if_neg (by decide), if_pos rfl]
    exact refApply_length 18 rfl [a] v w hv a rfl hp hl hA _ (Lib.hid fun w' => refLen_any a ha w')
  · exact arith (.inr (.inl rfl))
  · exact arith (.inr (.inr rfl))

theorem refApply_two (op : Int) (hop : 3 ≤ op ∧ op ≤ 14) (a b : Dat) (v : Value) (w : World) (hv : DatV w v [a, b]) (ha : rightD a = true) (hb : rightD b = true) (hI : InI a) (hJ : InI b) :
    Calls Tryz.prog 9 #[.int .i64 op, v] w (ResT (bothR op a b) w) := by
  have hA : [a, b].all rightD = true := by simp [ha, hb]
  have hl : (([a, b] : List Dat).length : Int) = arityR op := by
    unfold arityR
    rw [if_neg (by omega), if_pos hop]; rfl
  have hn := has_null2 ha hb
  have hp : 0 < ([a, b] : List Dat).length := by simp
  unfold bothR
  by_cases o13 : op = 13
  · subst o13
    rw [if_pos rfl, join_eq ha hb 0 (.inl rfl)]
    refine refApply_logic 13 (by omega) [a, b] v w hv hp hl hA _ (Lib.hid fun w' hw => ?_)
    cases ho : onlyR 1 1 [a, b]
    · rw [if_pos rfl]
      exact logic_type 13 [a, b] v w' (hv.below hw) ho
    · rw [if_neg (by decide)]
      exact logic_and [a, b] v w' (hv.below hw) ho
  · rw [if_neg o13]
    by_cases o14 : op = 14
    · subst o14
      rw [if_pos rfl, join_eq ha hb 1 (.inr rfl)]
      refine refApply_logic 14 (by omega) [a, b] v w hv hp hl hA _ (Lib.hid fun w' hw => ?_)
      cases ho : onlyR 1 1 [a, b]
      · rw [if_pos rfl]
        exact logic_type 14 [a, b] v w' (hv.below hw) ho
      · rw [if_neg (by decide)]
        exact logic_or [a, b] v w' (hv.below hw) ho
    · rw [if_neg o14]
      by_cases oc : 7 ≤ op ∧ op ≤ 12
      · rw [if_pos oc]
        have hop6 : op = 7 ∨ op = 8 ∨ op = 9 ∨ op = 10 ∨ op = 11 ∨ op = 12 := by omega
        refine refApply_cmp op hop6 [a, b] v w hv hp hl hA _ (Lib.hid fun w' hw => ?_)
        unfold relR
        by_cases k1 : a.k = 0
        · rw [if_pos (.inl k1)]
          exact cmp_null1 op a b v w' (hv.below hw) k1
        · by_cases k2 : b.k = 0
          · rw [if_pos (.inr k2)]
            exact cmp_null2 op a b v w' (hv.below hw) k1 k2
          · rw [if_neg (by omega)]
            have hnum : onlyR 2 3 [a, b] = (numB a.k && numB b.k) := by
              unfold onlyR okEl numB
              simp only [List.all_cons, List.all_nil, Bool.and_true]
              congr 1
              · rw [Bool.eq_iff_iff]
                simp
                omega
              · rw [Bool.eq_iff_iff]
                simp
                omega
            rw [← hnum]
            cases ho : onlyR 2 3 [a, b]
            · rw [if_neg (by decide)]
              by_cases hk : a.k = b.k
              · rw [if_neg (by omega)]
                rcases hop6 with rfl | rfl | rfl | rfl | rfl | rfl
                · exact cmp_same_7 a b v w' (hv.below hw) k1 k2 ho hk _ rfl
                · exact cmp_same_8 a b v w' (hv.below hw) k1 k2 ho hk _ rfl
                · exact cmp_same_9 a b v w' (hv.below hw) k1 k2 ho hk _ rfl
                · exact cmp_same_10 a b v w' (hv.below hw) k1 k2 ho hk _ rfl
                · exact cmp_same_11 a b v w' (hv.below hw) k1 k2 ho hk _ rfl
                · exact cmp_same_12 a b v w' (hv.below hw) k1 k2 ho hk _ rfl
              · rw [if_pos hk]
                exact cmp_type op a b v w' (hv.below hw) k1 k2 ho hk
            · rw [if_pos rfl]
              rcases hop6 with rfl | rfl | rfl | rfl | rfl | rfl
              · exact cmp_num_7 a b v w' (hv.below hw) hI hJ k1 k2 ho _ rfl
              · exact cmp_num_8 a b v w' (hv.below hw) hI hJ k1 k2 ho _ rfl
              · exact cmp_num_9 a b v w' (hv.below hw) hI hJ k1 k2 ho _ rfl
              · exact cmp_num_10 a b v w' (hv.below hw) hI hJ k1 k2 ho _ rfl
              · exact cmp_num_11 a b v w' (hv.below hw) hI hJ k1 k2 ho _ rfl
              · exact cmp_num_12 a b v w' (hv.below hw) hI hJ k1 k2 ho _ rfl
      · rw [if_neg oc]
        have hop4 : op = 3 ∨ op = 4 ∨ op = 5 ∨ op = 6 := by omega
        have hop7 : op = 1 ∨ op = 3 ∨ op = 4 ∨ op = 5 ∨ op = 6 ∨ op = 19 ∨ op = 20 := by omega
        unfold binR
        cases hk : onlyR 2 3 [a, b]
        · rw [if_pos rfl]
          exact refApply_kind op hop7 [a, b] v w hv hp hl hA hk
        · rw [if_neg (by decide)]
          refine refApply_arith op hop7 [a, b] v w hv hp hl hA _ hk (Lib.hid fun w' hw => ?_)
          by_cases h0 : a.k = 0 ∨ b.k = 0
          · rw [if_pos h0]
            exact arith_null op [a, b] v w' (hv.below hw) (by rw [hn]; exact decide_eq_true h0)
          · rw [if_neg h0]
            have hn' : hasR nullD [a, b] = false := by rw [hn]; exact decide_eq_false h0
            by_cases h1 : a.k = 2
            · by_cases h2 : b.k = 2
              · rw [if_pos ⟨h1, h2⟩]
                exact arith_int op a b v w' (hv.below hw) hn' hop4 hI hJ h1 h2
              · rw [if_neg (fun h => h2 h.2)]
                cases fa : fitsB (numZ a.k a.i)
                · rw [if_pos (by simp)]
                  exact arith_id_na op a b v w' (hv.below hw) hn' hop4 hI hJ _ h1 h2 fa rfl
                · cases fb : fitsB (numZ b.k b.i)
                  · rw [if_pos (by simp)]
                    exact arith_id_nb op a b v w' (hv.below hw) hn' hop4 hI hJ h1 h2 fa fb
                  · rw [if_neg (by simp)]
                    exact arith_id_yes op a b v w' (hv.below hw) hn' hop4 hI hJ h1 h2 fa fb
            · rw [if_neg (fun h => h1 h.1)]
              cases fa : fitsB (numZ a.k a.i)
              · rw [if_pos (by simp)]
                exact arith_d_na op a b v w' (hv.below hw) hn' hop4 hI hJ _ h1 fa rfl
              · cases fb : fitsB (numZ b.k b.i)
                · rw [if_pos (by simp)]
                  exact arith_d_nb op a b v w' (hv.below hw) hn' hop4 hI hJ h1 fa fb
                · rw [if_neg (by simp)]
                  exact arith_d_yes op a b v w' (hv.below hw) hn' hop4 hI hJ h1 fa fb

theorem arity_cases {op : Int} (h : arityR op ≠ 0) : (arityR op = 1 ∧ (op = 1 ∨ op = 2 ∨ op = 15 ∨ op = 18 ∨ op = 19 ∨ op = 20)) ∨ (arityR op = 2 ∧ 3 ≤ op ∧ op ≤ 14) := by
  by_cases h1 : op = 1 ∨ op = 2 ∨ op = 15 ∨ op = 18 ∨ op = 19 ∨ op = 20
  · exact .inl ⟨by unfold arityR; rw [if_pos h1], h1⟩
  · by_cases h2 : 3 ≤ op ∧ op ≤ 14
    · exact .inr ⟨by unfold arityR; rw [if_neg h1, if_pos h2], h2⟩
    · exact absurd (by unfold arityR; rw [if_neg h1, if_neg h2]) h

/-- The reference's Apply. -/
theorem refApply_any (op : Int) (L : List Dat) (v : Value) (w : World) (hv : DatV w v L) (hI : ∀ d ∈ L, InI d) :
    Calls Tryz.prog 9 #[.int .i64 op, v] w (ResT (appR op L) w) := by
  by_cases hm : arityR op = 0
  · unfold appR
    rw [if_pos (.inl hm)]
    exact refApply_none op L v w hv hm
  · by_cases hl : (L.length : Int) = arityR op
    · cases ha : L.all rightD
      · unfold appR
        rw [if_pos (.inr (.inr ha))]
        refine refApply_bad op L v w hv ?_ hl ha
        rcases arity_cases hm with h | h <;> omega
      · rw [appR_eq hm hl ha]
        rcases arity_cases hm with ⟨h1, h2⟩ | ⟨h1, h2⟩
        · match L, hv, hI, hl, ha with
          | [a], hv, hI, hl, ha => exact refApply_one op h2 a v w hv (by simpa using ha) (hI a (by simp))
          | [], _, _, hl, _ => rw [h1] at hl; exact absurd hl (by decide)
          | _ :: _ :: _, _, _, hl, _ => rw [h1] at hl; simp at hl; omega
        · match L, hv, hI, hl, ha with
          | [a, b], hv, hI, hl, ha =>
            simp only [List.all_cons, List.all_nil, Bool.and_true, Bool.and_eq_true] at ha
            exact refApply_two op h2 a b v w hv ha.1 ha.2 (hI a (by simp)) (hI b (by simp))
          | [], _, _, hl, _ => rw [h1] at hl; exact absurd hl (by decide)
          | [_], _, _, hl, _ => rw [h1] at hl; simp at hl
          | _ :: _ :: _ :: _, _, _, hl, _ => rw [h1] at hl; simp at hl; omega
    · unfold appR
      rw [if_pos (.inr (.inl hl))]
      exact refApply_len op L v w hv hm hl

end Go.Proofs.YtippffjhkinfoaaGreatDoor
