/-
  The program's Apply, at any values.
-/
import Derived.Test.YtippffjhkinfoaaGreatDoorPrR
import Derived.Test.YtippffjhkinfoaaGreatDoorRefApp
import Derived.Test.YtippffjhkinfoaaGreatDoorValidAll
namespace Go.Proofs.YtippffjhkinfoaaGreatDoor
open Go.RowKit

set_option maxRecDepth 100000 in
set_option maxHeartbeats 8000000 in
theorem apply_none (op : Int) (L : List Dat) (v : Value) (w : World) (hv : DatV w v L) (hm : arityR op = 0) :
    Calls Tryz.prog 60 #[.int .i64 op, v] w (ResPost 0 0 1 w) := by
  obtain ⟨A, c, rfl, _, _⟩ := hv.len
  have HM := Lib.hid (fun w => arity_any op w)
  rw [hm] at HM
  clear hm hv
  go_enter Tryz.func60, Tryz.ntmps60
  go_wp2_with (go_at_call 82; (with_reducible refine (HM.out _).mono ?_); rintro e w' ⟨rfl, rfl⟩)
  refine bodyPost_ret (v := .tuple #[.agg #[.int .i64 0, .int .i64 0, .string noText], .int .i64 1]) ?_ rfl ⟨rfl, ?_⟩
  · simp [results, Tryz.results60, go_sem]
  · exact (Below.refl _ _).alloc (Nat.le_refl _) _

set_option maxRecDepth 100000 in
set_option maxHeartbeats 8000000 in
theorem apply_len (op : Int) (L : List Dat) (v : Value) (w : World) (hv : DatV w v L) (hm : arityR op ≠ 0) (hl : (L.length : Int) ≠ arityR op) :
    Calls Tryz.prog 60 #[.int .i64 op, v] w (ResPost 0 0 1 w) := by
  obtain ⟨A, c, rfl, _, _⟩ := hv.len
  have HM := Lib.hid (fun w => arity_any op w)
  have hm0 : (arityR op == 0) = false := by simpa using hm
  have hm1 : ((L.length : Int) != arityR op) = true := by simpa using hl
  revert HM hm0 hm1
  generalize arityR op = n
  intro HM hm0 hm1
  clear hm hl hv
  go_enter Tryz.func60, Tryz.ntmps60
  go_wp2_with (go_at_call 82; (with_reducible refine (HM.out _).mono ?_); rintro e w' ⟨rfl, rfl⟩)
  refine bodyPost_ret (v := .tuple #[.agg #[.int .i64 0, .int .i64 0, .string noText], .int .i64 1]) ?_ rfl ⟨rfl, ?_⟩
  · simp [results, Tryz.results60, go_sem]
  · exact (Below.refl _ _).alloc (Nat.le_refl _) _

set_option maxRecDepth 100000 in
set_option maxHeartbeats 8000000 in
theorem apply_bad (op : Int) (L : List Dat) (v : Value) (w : World) (hv : DatV w v L) (hT : Tabs w) (h0 : 0 < L.length) (hl : (L.length : Int) = arityR op) (ha : L.all rightD = false) :
    Calls Tryz.prog 60 #[.int .i64 op, v] w (ResPost 0 0 1 w) := by
  obtain ⟨A, c, rfl, hc, hm⟩ := hv.len
  have HM := Lib.hid (fun w => arity_any op w)
  rw [← hl] at HM
  have hm0 : ((L.length : Int) == 0) = false := beq_eq_false_iff_ne.2 (by omega)
  have HV := Lib.hid hv
  have HA := Lib.hid ha
  have HT := Lib.hid hT
  clear hv hl h0 ha hT
  unfold maxLen at hm
  have hb0 := (Below.refl w.heap.size w).alloc (Nat.le_refl _) (.cells #[.int .i64 0, .int .i64 0, .string noText] 27)
  have bR := Blk.new w #[.int .i64 0, .int .i64 0, .string noText] 27
  go_enter Tryz.func60, Tryz.ntmps60
  go_wp2_with (go_at_call 82; (with_reducible refine (HM.out _).mono ?_); rintro e w' ⟨rfl, rfl⟩)
  go_loopw [22] (fun i wr => ∃ n : Nat, i = .int .i64 n ∧ n ≤ L.length ∧ Hid ((L.take n).all rightD = true) ∧ Below w.heap.size w wr ∧ Blk wr w.heap.size #[.int .i64 0, .int .i64 0, .string noText] 27) (fun i _ => L.length - (intOf i).toNat)
  case atStart => exact ⟨0, rfl, Nat.zero_le _, rfl, hb0, bR⟩
  case round =>
    clear hb0 bR
    obtain ⟨n, rfl, hn, HN, hb, bR⟩ := hrel
    by_cases hlt : n < L.length
    · rcases HV.out with ⟨_, h0⟩ | ⟨b, off, c', e, _, hbl, hat, _⟩
      · rw [h0] at hlt; simp at hlt
      · injection e with e1 e2 e3
        subst e1 e3
        obtain ⟨h0, h1, h2⟩ := (hat.block (hb.block b hbl)).dat n hlt
        have HP : Hid (rightD L[n] = true → (L.take (n + 1)).all rightD = true) := fun hp => all_take hlt HN.out hp
        have HE : Hid (L[n] ∈ L) := List.getElem_mem hlt
        clear hat hbl hn HN
        revert HP HE h0 h1 h2
        generalize L[n] = d
        obtain ⟨dk, di, ds⟩ := d
        intro h0 h1 h2 HP HE
        simp only at h0 h1 h2
        have hz := hb.size
        have hn1 : (n : Int) + 1 ≤ 9223372036854775807 := by omega
        have bRo := bR.alloc (.cells #[.int .i64 dk, .int .i64 di, .string ds] 27)
        have hbo := hb.alloc hz (.cells #[.int .i64 dk, .int .i64 di, .string ds] 27)
        have HR := Lib.hid (right_any dk di ds _ (HT.out.below hbo))
        clear HM
        cases hd : rightD ⟨dk, di, ds⟩
        · rw [hd] at HR
          clear hd HP HA HE
          go_wp2_with (go_at_call 27; (with_reducible refine HR.out.mono ?_); rintro e w5 ⟨rfl, hb5⟩; have bR5 := bRo.below hb5; have h5 := hbo.trans (hb5.mono hbo.size); have r0 := bR5.cell 0; have r1 := bR5.cell 1; have r2 := bR5.cell 2; have f0 := bR5.frozen 0; have f1 := bR5.frozen 1; have f2 := bR5.frozen 2; simp only [List.getElem?_toArray, List.getElem?_cons_zero, List.getElem?_cons_succ] at r0 r1 r2)
          refine bodyPost_ret ?_ rfl ⟨rfl, ?_⟩
          · simp [results, Tryz.results60, go_sem, r0, r1, r2]
          · exact (((h5.setCell (by simp; try omega) _).setCell (by simp; try omega) _).setCell (by simp; try omega) _)

        · rw [hd] at HR
          have HQ := Lib.hid (HP.out hd)
          clear hd HP HA HE
          go_wp2_with (go_at_call 27; (with_reducible refine HR.out.mono ?_); rintro e w5 ⟨rfl, hb5⟩; have bR5 := bRo.below hb5; have h5 := hbo.trans (hb5.mono hbo.size))
          refine ⟨⟨n + 1, by go_num, hlt, HQ, h5, bR5⟩, ?_⟩
          simp [intOf]
          go_num
    · have := HN.out
      rw [List.take_of_length_le (by omega), HA.out] at this
      cases this
set_option maxRecDepth 100000 in
set_option maxHeartbeats 8000000 in
theorem apply_not (op : Int) (hop : op = 2) (L : List Dat) (v : Value) (w : World) (hv : DatV w v L) (a : Dat) (hL : L = [a]) (hT : Tabs w) (h0 : 0 < L.length) (hl : (L.length : Int) = arityR op) (ha : L.all rightD = true) (t : Tri) (HP : Hid (∀ w', Calls Tryz.prog 83 #[datVal a] w' (ResT t w'))) :
    Calls Tryz.prog 60 #[.int .i64 op, v] w (ResT t w) := by
  obtain ⟨A, c, rfl, hc, hm⟩ := hv.len
  have HM := Lib.hid (fun w => arity_any op w)
  rw [← hl] at HM
  have hm0 : ((L.length : Int) == 0) = false := beq_eq_false_iff_ne.2 (by omega)
  have HV := Lib.hid hv
  have HA := Lib.hid ha
  have HT := Lib.hid hT
  have HL := Lib.hid hL
  have HOP := Lib.hid hop
  clear hL hop
  clear hv hl h0 ha hT
  unfold maxLen at hm
  have hb0 := (Below.refl w.heap.size w).alloc (Nat.le_refl _) (.cells #[.int .i64 0, .int .i64 0, .string noText] 27)
  have bR := Blk.new w #[.int .i64 0, .int .i64 0, .string noText] 27
  go_enter Tryz.func60, Tryz.ntmps60
  go_wp2_with (go_at_call 82; (with_reducible refine (HM.out _).mono ?_); rintro e w' ⟨rfl, rfl⟩)
  go_loopw [22] (fun i wr => ∃ n : Nat, i = .int .i64 n ∧ n ≤ L.length ∧ Hid ((L.take n).all rightD = true) ∧ Below w.heap.size w wr ∧ Blk wr w.heap.size #[.int .i64 0, .int .i64 0, .string noText] 27) (fun i _ => L.length - (intOf i).toNat)
  case atStart => exact ⟨0, rfl, Nat.zero_le _, rfl, hb0, bR⟩
  case round =>
    clear hb0 bR
    obtain ⟨n, rfl, hn, HN, hb, bR⟩ := hrel
    by_cases hlt : n < L.length
    · rcases HV.out with ⟨_, h0⟩ | ⟨b, off, c', e, _, hbl, hat, _⟩
      · rw [h0] at hlt; simp at hlt
      · injection e with e1 e2 e3
        subst e1 e3
        obtain ⟨h0, h1, h2⟩ := (hat.block (hb.block b hbl)).dat n hlt
        have HP : Hid (rightD L[n] = true → (L.take (n + 1)).all rightD = true) := fun hp => all_take hlt HN.out hp
        have HE : Hid (L[n] ∈ L) := List.getElem_mem hlt
        clear hat hbl hn HN
        revert HP HE h0 h1 h2
        generalize L[n] = d
        obtain ⟨dk, di, ds⟩ := d
        intro h0 h1 h2 HP HE
        simp only at h0 h1 h2
        have hz := hb.size
        have hn1 : (n : Int) + 1 ≤ 9223372036854775807 := by omega
        have bRo := bR.alloc (.cells #[.int .i64 dk, .int .i64 di, .string ds] 27)
        have hbo := hb.alloc hz (.cells #[.int .i64 dk, .int .i64 di, .string ds] 27)
        have HR := Lib.hid (right_any dk di ds _ (HT.out.below hbo))
        clear HM
        cases hd : rightD ⟨dk, di, ds⟩
        · have := List.all_eq_true.1 HA.out _ HE.out
          rw [hd] at this
          cases this
        · rw [hd] at HR
          have HQ := Lib.hid (HP.out hd)
          clear hd HP HA HE
          go_wp2_with (go_at_call 27; (with_reducible refine HR.out.mono ?_); rintro e w5 ⟨rfl, hb5⟩; have bR5 := bRo.below hb5; have h5 := hbo.trans (hb5.mono hbo.size))
          refine ⟨⟨n + 1, by go_num, hlt, HQ, h5, bR5⟩, ?_⟩
          simp [intOf]
          go_num
    · clear HN HA HM
      have hL := HL.out
      rcases HV.out with ⟨_, q0⟩ | ⟨b, off, c', e, _, hbl, hat, _⟩
      · rw [hL] at q0; cases q0
      · injection e with e1 e2 e3
        subst e1 e3
        have hlt0 : 0 < L.length := by rw [hL]; simp
        obtain ⟨x0, x1, x2⟩ := (hat.block (hb.block b hbl)).dat 0 hlt0
        have e0 : L[0] = a := by simp [hL]
        rw [e0] at x0 x1 x2
        simp only [Nat.zero_mul, Nat.add_zero] at x0 x1 x2
        have hl1 : L.length = 1 := by rw [hL]; rfl
        have hc1 : (1 : Int) ≤ c := by omega
        obtain rfl : n = 1 := by omega
        rw [hl1]
        clear hat e0 HV hL hl1 hlt hn hlt0
        have hop := HOP.out
        subst hop
        go_wp2_with (go_at_call 83; (with_reducible refine (HP.out _).mono ?_); rintro e w7 ⟨rfl, hb7⟩; have bR7 := bR.below hb7; have h7 := hb.trans (hb7.mono hb.size); have r0 := bR7.cell 0; have r1 := bR7.cell 1; have r2 := bR7.cell 2; have f0 := bR7.frozen 0; have f1 := bR7.frozen 1; have f2 := bR7.frozen 2; simp only [List.getElem?_toArray, List.getElem?_cons_zero, List.getElem?_cons_succ] at r0 r1 r2)
        refine bodyPost_ret ?_ rfl ⟨rfl, ?_⟩
        · simp [results, Tryz.results60, go_sem, r0, r1, r2]
        · exact (((h7.setCell (by simp; try omega) _).setCell (by simp; try omega) _).setCell (by simp; try omega) _)

set_option maxRecDepth 100000 in
set_option maxHeartbeats 8000000 in
theorem apply_length (op : Int) (hop : op = 18) (L : List Dat) (v : Value) (w : World) (hv : DatV w v L) (a : Dat) (hL : L = [a]) (hT : Tabs w) (h0 : 0 < L.length) (hl : (L.length : Int) = arityR op) (ha : L.all rightD = true) (t : Tri) (HP : Hid (∀ w', Calls Tryz.prog 89 #[datVal a] w' (ResT t w'))) :
    Calls Tryz.prog 60 #[.int .i64 op, v] w (ResT t w) := by
  obtain ⟨A, c, rfl, hc, hm⟩ := hv.len
  have HM := Lib.hid (fun w => arity_any op w)
  rw [← hl] at HM
  have hm0 : ((L.length : Int) == 0) = false := beq_eq_false_iff_ne.2 (by omega)
  have HV := Lib.hid hv
  have HA := Lib.hid ha
  have HT := Lib.hid hT
  have HL := Lib.hid hL
  have HOP := Lib.hid hop
  clear hL hop
  clear hv hl h0 ha hT
  unfold maxLen at hm
  have hb0 := (Below.refl w.heap.size w).alloc (Nat.le_refl _) (.cells #[.int .i64 0, .int .i64 0, .string noText] 27)
  have bR := Blk.new w #[.int .i64 0, .int .i64 0, .string noText] 27
  go_enter Tryz.func60, Tryz.ntmps60
  go_wp2_with (go_at_call 82; (with_reducible refine (HM.out _).mono ?_); rintro e w' ⟨rfl, rfl⟩)
  go_loopw [22] (fun i wr => ∃ n : Nat, i = .int .i64 n ∧ n ≤ L.length ∧ Hid ((L.take n).all rightD = true) ∧ Below w.heap.size w wr ∧ Blk wr w.heap.size #[.int .i64 0, .int .i64 0, .string noText] 27) (fun i _ => L.length - (intOf i).toNat)
  case atStart => exact ⟨0, rfl, Nat.zero_le _, rfl, hb0, bR⟩
  case round =>
    clear hb0 bR
    obtain ⟨n, rfl, hn, HN, hb, bR⟩ := hrel
    by_cases hlt : n < L.length
    · rcases HV.out with ⟨_, h0⟩ | ⟨b, off, c', e, _, hbl, hat, _⟩
      · rw [h0] at hlt; simp at hlt
      · injection e with e1 e2 e3
        subst e1 e3
        obtain ⟨h0, h1, h2⟩ := (hat.block (hb.block b hbl)).dat n hlt
        have HP : Hid (rightD L[n] = true → (L.take (n + 1)).all rightD = true) := fun hp => all_take hlt HN.out hp
        have HE : Hid (L[n] ∈ L) := List.getElem_mem hlt
        clear hat hbl hn HN
        revert HP HE h0 h1 h2
        generalize L[n] = d
        obtain ⟨dk, di, ds⟩ := d
        intro h0 h1 h2 HP HE
        simp only at h0 h1 h2
        have hz := hb.size
        have hn1 : (n : Int) + 1 ≤ 9223372036854775807 := by omega
        have bRo := bR.alloc (.cells #[.int .i64 dk, .int .i64 di, .string ds] 27)
        have hbo := hb.alloc hz (.cells #[.int .i64 dk, .int .i64 di, .string ds] 27)
        have HR := Lib.hid (right_any dk di ds _ (HT.out.below hbo))
        clear HM
        cases hd : rightD ⟨dk, di, ds⟩
        · have := List.all_eq_true.1 HA.out _ HE.out
          rw [hd] at this
          cases this
        · rw [hd] at HR
          have HQ := Lib.hid (HP.out hd)
          clear hd HP HA HE
          go_wp2_with (go_at_call 27; (with_reducible refine HR.out.mono ?_); rintro e w5 ⟨rfl, hb5⟩; have bR5 := bRo.below hb5; have h5 := hbo.trans (hb5.mono hbo.size))
          refine ⟨⟨n + 1, by go_num, hlt, HQ, h5, bR5⟩, ?_⟩
          simp [intOf]
          go_num
    · clear HN HA HM
      have hL := HL.out
      rcases HV.out with ⟨_, q0⟩ | ⟨b, off, c', e, _, hbl, hat, _⟩
      · rw [hL] at q0; cases q0
      · injection e with e1 e2 e3
        subst e1 e3
        have hlt0 : 0 < L.length := by rw [hL]; simp
        obtain ⟨x0, x1, x2⟩ := (hat.block (hb.block b hbl)).dat 0 hlt0
        have e0 : L[0] = a := by simp [hL]
        rw [e0] at x0 x1 x2
        simp only [Nat.zero_mul, Nat.add_zero] at x0 x1 x2
        have hl1 : L.length = 1 := by rw [hL]; rfl
        have hc1 : (1 : Int) ≤ c := by omega
        obtain rfl : n = 1 := by omega
        rw [hl1]
        clear hat e0 HV hL hl1 hlt hn hlt0
        have hop := HOP.out
        subst hop
        go_wp2_with (go_at_call 89; (with_reducible refine (HP.out _).mono ?_); rintro e w7 ⟨rfl, hb7⟩; have bR7 := bR.below hb7; have h7 := hb.trans (hb7.mono hb.size); have r0 := bR7.cell 0; have r1 := bR7.cell 1; have r2 := bR7.cell 2; have f0 := bR7.frozen 0; have f1 := bR7.frozen 1; have f2 := bR7.frozen 2; simp only [List.getElem?_toArray, List.getElem?_cons_zero, List.getElem?_cons_succ] at r0 r1 r2)
        refine bodyPost_ret ?_ rfl ⟨rfl, ?_⟩
        · simp [results, Tryz.results60, go_sem, r0, r1, r2]
        · exact (((h7.setCell (by simp; try omega) _).setCell (by simp; try omega) _).setCell (by simp; try omega) _)

set_option maxRecDepth 100000 in
set_option maxHeartbeats 8000000 in
theorem apply_change (op : Int) (hop : op = 1 ∨ op = 19 ∨ op = 20) (L : List Dat) (v : Value) (w : World) (hv : DatV w v L) (a : Dat) (hL : L = [a]) (hT : Tabs w) (h0 : 0 < L.length) (hl : (L.length : Int) = arityR op) (ha : L.all rightD = true) (t : Tri) (HP : Hid (∀ w', Calls Tryz.prog 87 #[.int .i64 op, datVal a] w' (ResT t w'))) :
    Calls Tryz.prog 60 #[.int .i64 op, v] w (ResT t w) := by
  obtain ⟨A, c, rfl, hc, hm⟩ := hv.len
  have HM := Lib.hid (fun w => arity_any op w)
  rw [← hl] at HM
  have hm0 : ((L.length : Int) == 0) = false := beq_eq_false_iff_ne.2 (by omega)
  have HV := Lib.hid hv
  have HA := Lib.hid ha
  have HT := Lib.hid hT
  have HL := Lib.hid hL
  have HOP := Lib.hid hop
  clear hL hop
  clear hv hl h0 ha hT
  unfold maxLen at hm
  have hb0 := (Below.refl w.heap.size w).alloc (Nat.le_refl _) (.cells #[.int .i64 0, .int .i64 0, .string noText] 27)
  have bR := Blk.new w #[.int .i64 0, .int .i64 0, .string noText] 27
  go_enter Tryz.func60, Tryz.ntmps60
  go_wp2_with (go_at_call 82; (with_reducible refine (HM.out _).mono ?_); rintro e w' ⟨rfl, rfl⟩)
  go_loopw [22] (fun i wr => ∃ n : Nat, i = .int .i64 n ∧ n ≤ L.length ∧ Hid ((L.take n).all rightD = true) ∧ Below w.heap.size w wr ∧ Blk wr w.heap.size #[.int .i64 0, .int .i64 0, .string noText] 27) (fun i _ => L.length - (intOf i).toNat)
  case atStart => exact ⟨0, rfl, Nat.zero_le _, rfl, hb0, bR⟩
  case round =>
    clear hb0 bR
    obtain ⟨n, rfl, hn, HN, hb, bR⟩ := hrel
    by_cases hlt : n < L.length
    · rcases HV.out with ⟨_, h0⟩ | ⟨b, off, c', e, _, hbl, hat, _⟩
      · rw [h0] at hlt; simp at hlt
      · injection e with e1 e2 e3
        subst e1 e3
        obtain ⟨h0, h1, h2⟩ := (hat.block (hb.block b hbl)).dat n hlt
        have HP : Hid (rightD L[n] = true → (L.take (n + 1)).all rightD = true) := fun hp => all_take hlt HN.out hp
        have HE : Hid (L[n] ∈ L) := List.getElem_mem hlt
        clear hat hbl hn HN
        revert HP HE h0 h1 h2
        generalize L[n] = d
        obtain ⟨dk, di, ds⟩ := d
        intro h0 h1 h2 HP HE
        simp only at h0 h1 h2
        have hz := hb.size
        have hn1 : (n : Int) + 1 ≤ 9223372036854775807 := by omega
        have bRo := bR.alloc (.cells #[.int .i64 dk, .int .i64 di, .string ds] 27)
        have hbo := hb.alloc hz (.cells #[.int .i64 dk, .int .i64 di, .string ds] 27)
        have HR := Lib.hid (right_any dk di ds _ (HT.out.below hbo))
        clear HM
        cases hd : rightD ⟨dk, di, ds⟩
        · have := List.all_eq_true.1 HA.out _ HE.out
          rw [hd] at this
          cases this
        · rw [hd] at HR
          have HQ := Lib.hid (HP.out hd)
          clear hd HP HA HE
          go_wp2_with (go_at_call 27; (with_reducible refine HR.out.mono ?_); rintro e w5 ⟨rfl, hb5⟩; have bR5 := bRo.below hb5; have h5 := hbo.trans (hb5.mono hbo.size))
          refine ⟨⟨n + 1, by go_num, hlt, HQ, h5, bR5⟩, ?_⟩
          simp [intOf]
          go_num
    · clear HN HA HM
      have hL := HL.out
      rcases HV.out with ⟨_, q0⟩ | ⟨b, off, c', e, _, hbl, hat, _⟩
      · rw [hL] at q0; cases q0
      · injection e with e1 e2 e3
        subst e1 e3
        have hlt0 : 0 < L.length := by rw [hL]; simp
        obtain ⟨x0, x1, x2⟩ := (hat.block (hb.block b hbl)).dat 0 hlt0
        have e0 : L[0] = a := by simp [hL]
        rw [e0] at x0 x1 x2
        simp only [Nat.zero_mul, Nat.add_zero] at x0 x1 x2
        have hl1 : L.length = 1 := by rw [hL]; rfl
        have hc1 : (1 : Int) ≤ c := by omega
        obtain rfl : n = 1 := by omega
        rw [hl1]
        clear hat e0 HV hL hl1 hlt hn hlt0
        have hop := HOP.out
        rcases hop with rfl | rfl | rfl
        all_goals
          go_wp2_with (go_at_call 87; (with_reducible refine (HP.out _).mono ?_); rintro e w7 ⟨rfl, hb7⟩; have bR7 := bR.below hb7; have h7 := hb.trans (hb7.mono hb.size); have r0 := bR7.cell 0; have r1 := bR7.cell 1; have r2 := bR7.cell 2; have f0 := bR7.frozen 0; have f1 := bR7.frozen 1; have f2 := bR7.frozen 2; simp only [List.getElem?_toArray, List.getElem?_cons_zero, List.getElem?_cons_succ] at r0 r1 r2)
          refine bodyPost_ret ?_ rfl ⟨rfl, ?_⟩
          · simp [results, Tryz.results60, go_sem, r0, r1, r2]
          · exact (((h7.setCell (by simp; try omega) _).setCell (by simp; try omega) _).setCell (by simp; try omega) _)

set_option maxRecDepth 100000 in
set_option maxHeartbeats 8000000 in
theorem apply_isnull (op : Int) (hop : op = 15) (L : List Dat) (v : Value) (w : World) (hv : DatV w v L) (a : Dat) (hL : L = [a]) (hT : Tabs w) (h0 : 0 < L.length) (hl : (L.length : Int) = arityR op) (ha : L.all rightD = true) :
    Calls Tryz.prog 60 #[.int .i64 op, v] w (ResT (1, bitOf (a.k == 0), 0) w) := by
  obtain ⟨A, c, rfl, hc, hm⟩ := hv.len
  have HM := Lib.hid (fun w => arity_any op w)
  rw [← hl] at HM
  have hm0 : ((L.length : Int) == 0) = false := beq_eq_false_iff_ne.2 (by omega)
  have HV := Lib.hid hv
  have HA := Lib.hid ha
  have HT := Lib.hid hT
  have HL := Lib.hid hL
  have HOP := Lib.hid hop
  clear hL hop
  clear hv hl h0 ha hT
  unfold maxLen at hm
  have hb0 := (Below.refl w.heap.size w).alloc (Nat.le_refl _) (.cells #[.int .i64 0, .int .i64 0, .string noText] 27)
  have bR := Blk.new w #[.int .i64 0, .int .i64 0, .string noText] 27
  go_enter Tryz.func60, Tryz.ntmps60
  go_wp2_with (go_at_call 82; (with_reducible refine (HM.out _).mono ?_); rintro e w' ⟨rfl, rfl⟩)
  go_loopw [22] (fun i wr => ∃ n : Nat, i = .int .i64 n ∧ n ≤ L.length ∧ Hid ((L.take n).all rightD = true) ∧ Below w.heap.size w wr ∧ Blk wr w.heap.size #[.int .i64 0, .int .i64 0, .string noText] 27) (fun i _ => L.length - (intOf i).toNat)
  case atStart => exact ⟨0, rfl, Nat.zero_le _, rfl, hb0, bR⟩
  case round =>
    clear hb0 bR
    obtain ⟨n, rfl, hn, HN, hb, bR⟩ := hrel
    by_cases hlt : n < L.length
    · rcases HV.out with ⟨_, h0⟩ | ⟨b, off, c', e, _, hbl, hat, _⟩
      · rw [h0] at hlt; simp at hlt
      · injection e with e1 e2 e3
        subst e1 e3
        obtain ⟨h0, h1, h2⟩ := (hat.block (hb.block b hbl)).dat n hlt
        have HP : Hid (rightD L[n] = true → (L.take (n + 1)).all rightD = true) := fun hp => all_take hlt HN.out hp
        have HE : Hid (L[n] ∈ L) := List.getElem_mem hlt
        clear hat hbl hn HN
        revert HP HE h0 h1 h2
        generalize L[n] = d
        obtain ⟨dk, di, ds⟩ := d
        intro h0 h1 h2 HP HE
        simp only at h0 h1 h2
        have hz := hb.size
        have hn1 : (n : Int) + 1 ≤ 9223372036854775807 := by omega
        have bRo := bR.alloc (.cells #[.int .i64 dk, .int .i64 di, .string ds] 27)
        have hbo := hb.alloc hz (.cells #[.int .i64 dk, .int .i64 di, .string ds] 27)
        have HR := Lib.hid (right_any dk di ds _ (HT.out.below hbo))
        clear HM
        cases hd : rightD ⟨dk, di, ds⟩
        · have := List.all_eq_true.1 HA.out _ HE.out
          rw [hd] at this
          cases this
        · rw [hd] at HR
          have HQ := Lib.hid (HP.out hd)
          clear hd HP HA HE
          go_wp2_with (go_at_call 27; (with_reducible refine HR.out.mono ?_); rintro e w5 ⟨rfl, hb5⟩; have bR5 := bRo.below hb5; have h5 := hbo.trans (hb5.mono hbo.size))
          refine ⟨⟨n + 1, by go_num, hlt, HQ, h5, bR5⟩, ?_⟩
          simp [intOf]
          go_num
    · clear HN HA HM
      have hL := HL.out
      rcases HV.out with ⟨_, q0⟩ | ⟨b, off, c', e, _, hbl, hat, _⟩
      · rw [hL] at q0; cases q0
      · injection e with e1 e2 e3
        subst e1 e3
        have hlt0 : 0 < L.length := by rw [hL]; simp
        obtain ⟨x0, x1, x2⟩ := (hat.block (hb.block b hbl)).dat 0 hlt0
        have e0 : L[0] = a := by simp [hL]
        rw [e0] at x0 x1 x2
        simp only [Nat.zero_mul, Nat.add_zero] at x0 x1 x2
        have hl1 : L.length = 1 := by rw [hL]; rfl
        have hc1 : (1 : Int) ≤ c := by omega
        obtain rfl : n = 1 := by omega
        rw [hl1]
        clear hat e0 HV hL hl1 hlt hn hlt0
        have hop := HOP.out
        subst hop
        have hz := hb.size
        have bR7 := (bR.alloc (.cells #[.int .i64 a.k, .int .i64 a.i, .string a.s] 27)).alloc (.cells #[.int .i64 1, .int .i64 (bitOf (a.k == 0)), .string noText] 27)
        have h7 := (hb.alloc hz (.cells #[.int .i64 a.k, .int .i64 a.i, .string a.s] 27)).alloc (by simp; omega) (.cells #[.int .i64 1, .int .i64 (bitOf (a.k == 0)), .string noText] 27)
        have r0 := bR7.cell 0
        have r1 := bR7.cell 1
        have r2 := bR7.cell 2
        have f0 := bR7.frozen 0
        have f1 := bR7.frozen 1
        have f2 := bR7.frozen 2
        simp only [List.getElem?_toArray, List.getElem?_cons_zero, List.getElem?_cons_succ] at r0 r1 r2
        go_wp2_with (first
          | (go_at_call 86; refine (isNull_any a.k a.i a.s _).mono ?_; rintro e w' ⟨rfl, rfl⟩)
          | (go_at_call 85; refine (truth_any (a.k == 0) _).mono ?_; rintro e w' ⟨rfl, rfl⟩))
        refine bodyPost_ret ?_ rfl ⟨rfl, ?_⟩
        · simp [results, Tryz.results60, go_sem, r0, r1, r2]
        · exact (((h7.setCell (by simp; try omega) _).setCell (by simp; try omega) _).setCell (by simp; try omega) _)

set_option maxRecDepth 100000 in
set_option maxHeartbeats 8000000 in
theorem apply_and (op : Int) (hop : op = 13) (L : List Dat) (v : Value) (w : World) (hv : DatV w v L) (a b : Dat) (hL : L = [a, b]) (hT : Tabs w) (h0 : 0 < L.length) (hl : (L.length : Int) = arityR op) (ha : L.all rightD = true) (t : Tri) (HP : Hid (∀ w', Calls Tryz.prog 84 #[datVal a, datVal b, .int .i64 0] w' (ResT t w'))) :
    Calls Tryz.prog 60 #[.int .i64 op, v] w (ResT t w) := by
  obtain ⟨A, c, rfl, hc, hm⟩ := hv.len
  have HM := Lib.hid (fun w => arity_any op w)
  rw [← hl] at HM
  have hm0 : ((L.length : Int) == 0) = false := beq_eq_false_iff_ne.2 (by omega)
  have HV := Lib.hid hv
  have HA := Lib.hid ha
  have HT := Lib.hid hT
  have HL := Lib.hid hL
  have HOP := Lib.hid hop
  clear hL hop
  clear hv hl h0 ha hT
  unfold maxLen at hm
  have hb0 := (Below.refl w.heap.size w).alloc (Nat.le_refl _) (.cells #[.int .i64 0, .int .i64 0, .string noText] 27)
  have bR := Blk.new w #[.int .i64 0, .int .i64 0, .string noText] 27
  go_enter Tryz.func60, Tryz.ntmps60
  go_wp2_with (go_at_call 82; (with_reducible refine (HM.out _).mono ?_); rintro e w' ⟨rfl, rfl⟩)
  go_loopw [22] (fun i wr => ∃ n : Nat, i = .int .i64 n ∧ n ≤ L.length ∧ Hid ((L.take n).all rightD = true) ∧ Below w.heap.size w wr ∧ Blk wr w.heap.size #[.int .i64 0, .int .i64 0, .string noText] 27) (fun i _ => L.length - (intOf i).toNat)
  case atStart => exact ⟨0, rfl, Nat.zero_le _, rfl, hb0, bR⟩
  case round =>
    clear hb0 bR
    obtain ⟨n, rfl, hn, HN, hb, bR⟩ := hrel
    by_cases hlt : n < L.length
    · rcases HV.out with ⟨_, h0⟩ | ⟨b, off, c', e, _, hbl, hat, _⟩
      · rw [h0] at hlt; simp at hlt
      · injection e with e1 e2 e3
        subst e1 e3
        obtain ⟨h0, h1, h2⟩ := (hat.block (hb.block b hbl)).dat n hlt
        have HP : Hid (rightD L[n] = true → (L.take (n + 1)).all rightD = true) := fun hp => all_take hlt HN.out hp
        have HE : Hid (L[n] ∈ L) := List.getElem_mem hlt
        clear hat hbl hn HN
        revert HP HE h0 h1 h2
        generalize L[n] = d
        obtain ⟨dk, di, ds⟩ := d
        intro h0 h1 h2 HP HE
        simp only at h0 h1 h2
        have hz := hb.size
        have hn1 : (n : Int) + 1 ≤ 9223372036854775807 := by omega
        have bRo := bR.alloc (.cells #[.int .i64 dk, .int .i64 di, .string ds] 27)
        have hbo := hb.alloc hz (.cells #[.int .i64 dk, .int .i64 di, .string ds] 27)
        have HR := Lib.hid (right_any dk di ds _ (HT.out.below hbo))
        clear HM
        cases hd : rightD ⟨dk, di, ds⟩
        · have := List.all_eq_true.1 HA.out _ HE.out
          rw [hd] at this
          cases this
        · rw [hd] at HR
          have HQ := Lib.hid (HP.out hd)
          clear hd HP HA HE
          go_wp2_with (go_at_call 27; (with_reducible refine HR.out.mono ?_); rintro e w5 ⟨rfl, hb5⟩; have bR5 := bRo.below hb5; have h5 := hbo.trans (hb5.mono hbo.size))
          refine ⟨⟨n + 1, by go_num, hlt, HQ, h5, bR5⟩, ?_⟩
          simp [intOf]
          go_num
    · clear HN HA HM
      have hL := HL.out
      rcases HV.out with ⟨_, q0⟩ | ⟨b0, off, c', e, _, hbl, hat, _⟩
      · rw [hL] at q0; cases q0
      · injection e with e1 e2 e3
        subst e1 e3
        have hlt0 : 0 < L.length := by rw [hL]; simp
        have hlt1 : 1 < L.length := by rw [hL]; simp
        obtain ⟨x0, x1, x2⟩ := (hat.block (hb.block b0 hbl)).dat 0 hlt0
        obtain ⟨x3, x4, x5⟩ := (hat.block (hb.block b0 hbl)).dat 1 hlt1
        have e0 : L[0] = a := by simp [hL]
        have e1 : L[1] = b := by simp [hL]
        rw [e0] at x0 x1 x2
        rw [e1] at x3 x4 x5
        simp only [Nat.zero_mul, Nat.one_mul, Nat.add_zero] at x0 x1 x2 x3 x4 x5
        have hl1 : L.length = 2 := by rw [hL]; rfl
        have hc1 : (2 : Int) ≤ c := by omega
        obtain rfl : n = 2 := by omega
        have hbw : b0 ≠ w.heap.size := by omega
        rw [hl1]
        clear hat e0 e1 HV hL hl1 hlt hn hlt0 hlt1
        have hop := HOP.out
        subst hop
        go_wp2_with fail
        go_region_held3 (fun w' => w'.cell? ⟨b0, off, none⟩ = some (.int .i64 a.k) ∧ w'.cell? ⟨b0, off + 1, none⟩ = some (.int .i64 a.i) ∧ w'.cell? ⟨b0, off + 2, none⟩ = some (.string a.s) ∧ w'.cell? ⟨b0, off + 3, none⟩ = some (.int .i64 b.k) ∧ w'.cell? ⟨b0, off + 3 + 1, none⟩ = some (.int .i64 b.i) ∧ w'.cell? ⟨b0, off + 3 + 2, none⟩ = some (.string b.s)) (first | exact ⟨x0, x1, x2, x3, x4, x5⟩ | exact ⟨y0, y1, y2, y3, y4, y5⟩ | exact ⟨cell_set3 hbw y0, cell_set3 hbw y1, cell_set3 hbw y2, cell_set3 hbw y3, cell_set3 hbw y4, cell_set3 hbw y5⟩) ((first
          | (go_at_call 84; (with_reducible refine (HP.out _).mono ?_); rintro e w7 ⟨rfl, hb7⟩; have bR7 := bR.drew.below hb7; have h7 := hb.drew.trans (hb7.mono hb.drew.size); have hlw := World.block_lt_of_cell? _ _ x0; have y0 := (hb7.cell (p := ⟨b0, off, none⟩) hlw).trans x0; have y1 := (hb7.cell (p := ⟨b0, off + 1, none⟩) hlw).trans x1; have y2 := (hb7.cell (p := ⟨b0, off + 2, none⟩) hlw).trans x2; have y3 := (hb7.cell (p := ⟨b0, off + 3, none⟩) hlw).trans x3; have y4 := (hb7.cell (p := ⟨b0, off + 3 + 1, none⟩) hlw).trans x4; have y5 := (hb7.cell (p := ⟨b0, off + 3 + 2, none⟩) hlw).trans x5; have r0 := bR7.cell 0; have r1 := bR7.cell 1; have r2 := bR7.cell 2; have f0 := bR7.frozen 0; have f1 := bR7.frozen 1; have f2 := bR7.frozen 2; simp only [List.getElem?_toArray, List.getElem?_cons_zero, List.getElem?_cons_succ] at r0 r1 r2)))
        go_step
        go_step
        go_wp2_with fail
        refine bodyPost_ret ?_ rfl ⟨rfl, ?_⟩
        · simp [results, Tryz.results60, go_sem, r0, r1, r2]
        · exact (((h7.setCell (by simp; try omega) _).setCell (by simp; try omega) _).setCell (by simp; try omega) _)

set_option maxRecDepth 100000 in
set_option maxHeartbeats 8000000 in
theorem apply_or (op : Int) (hop : op = 14) (L : List Dat) (v : Value) (w : World) (hv : DatV w v L) (a b : Dat) (hL : L = [a, b]) (hT : Tabs w) (h0 : 0 < L.length) (hl : (L.length : Int) = arityR op) (ha : L.all rightD = true) (t : Tri) (HP : Hid (∀ w', Calls Tryz.prog 84 #[datVal a, datVal b, .int .i64 1] w' (ResT t w'))) :
    Calls Tryz.prog 60 #[.int .i64 op, v] w (ResT t w) := by
  obtain ⟨A, c, rfl, hc, hm⟩ := hv.len
  have HM := Lib.hid (fun w => arity_any op w)
  rw [← hl] at HM
  have hm0 : ((L.length : Int) == 0) = false := beq_eq_false_iff_ne.2 (by omega)
  have HV := Lib.hid hv
  have HA := Lib.hid ha
  have HT := Lib.hid hT
  have HL := Lib.hid hL
  have HOP := Lib.hid hop
  clear hL hop
  clear hv hl h0 ha hT
  unfold maxLen at hm
  have hb0 := (Below.refl w.heap.size w).alloc (Nat.le_refl _) (.cells #[.int .i64 0, .int .i64 0, .string noText] 27)
  have bR := Blk.new w #[.int .i64 0, .int .i64 0, .string noText] 27
  go_enter Tryz.func60, Tryz.ntmps60
  go_wp2_with (go_at_call 82; (with_reducible refine (HM.out _).mono ?_); rintro e w' ⟨rfl, rfl⟩)
  go_loopw [22] (fun i wr => ∃ n : Nat, i = .int .i64 n ∧ n ≤ L.length ∧ Hid ((L.take n).all rightD = true) ∧ Below w.heap.size w wr ∧ Blk wr w.heap.size #[.int .i64 0, .int .i64 0, .string noText] 27) (fun i _ => L.length - (intOf i).toNat)
  case atStart => exact ⟨0, rfl, Nat.zero_le _, rfl, hb0, bR⟩
  case round =>
    clear hb0 bR
    obtain ⟨n, rfl, hn, HN, hb, bR⟩ := hrel
    by_cases hlt : n < L.length
    · rcases HV.out with ⟨_, h0⟩ | ⟨b, off, c', e, _, hbl, hat, _⟩
      · rw [h0] at hlt; simp at hlt
      · injection e with e1 e2 e3
        subst e1 e3
        obtain ⟨h0, h1, h2⟩ := (hat.block (hb.block b hbl)).dat n hlt
        have HP : Hid (rightD L[n] = true → (L.take (n + 1)).all rightD = true) := fun hp => all_take hlt HN.out hp
        have HE : Hid (L[n] ∈ L) := List.getElem_mem hlt
        clear hat hbl hn HN
        revert HP HE h0 h1 h2
        generalize L[n] = d
        obtain ⟨dk, di, ds⟩ := d
        intro h0 h1 h2 HP HE
        simp only at h0 h1 h2
        have hz := hb.size
        have hn1 : (n : Int) + 1 ≤ 9223372036854775807 := by omega
        have bRo := bR.alloc (.cells #[.int .i64 dk, .int .i64 di, .string ds] 27)
        have hbo := hb.alloc hz (.cells #[.int .i64 dk, .int .i64 di, .string ds] 27)
        have HR := Lib.hid (right_any dk di ds _ (HT.out.below hbo))
        clear HM
        cases hd : rightD ⟨dk, di, ds⟩
        · have := List.all_eq_true.1 HA.out _ HE.out
          rw [hd] at this
          cases this
        · rw [hd] at HR
          have HQ := Lib.hid (HP.out hd)
          clear hd HP HA HE
          go_wp2_with (go_at_call 27; (with_reducible refine HR.out.mono ?_); rintro e w5 ⟨rfl, hb5⟩; have bR5 := bRo.below hb5; have h5 := hbo.trans (hb5.mono hbo.size))
          refine ⟨⟨n + 1, by go_num, hlt, HQ, h5, bR5⟩, ?_⟩
          simp [intOf]
          go_num
    · clear HN HA HM
      have hL := HL.out
      rcases HV.out with ⟨_, q0⟩ | ⟨b0, off, c', e, _, hbl, hat, _⟩
      · rw [hL] at q0; cases q0
      · injection e with e1 e2 e3
        subst e1 e3
        have hlt0 : 0 < L.length := by rw [hL]; simp
        have hlt1 : 1 < L.length := by rw [hL]; simp
        obtain ⟨x0, x1, x2⟩ := (hat.block (hb.block b0 hbl)).dat 0 hlt0
        obtain ⟨x3, x4, x5⟩ := (hat.block (hb.block b0 hbl)).dat 1 hlt1
        have e0 : L[0] = a := by simp [hL]
        have e1 : L[1] = b := by simp [hL]
        rw [e0] at x0 x1 x2
        rw [e1] at x3 x4 x5
        simp only [Nat.zero_mul, Nat.one_mul, Nat.add_zero] at x0 x1 x2 x3 x4 x5
        have hl1 : L.length = 2 := by rw [hL]; rfl
        have hc1 : (2 : Int) ≤ c := by omega
        obtain rfl : n = 2 := by omega
        have hbw : b0 ≠ w.heap.size := by omega
        rw [hl1]
        clear hat e0 e1 HV hL hl1 hlt hn hlt0 hlt1
        have hop := HOP.out
        subst hop
        go_wp2_with fail
        go_region_held3 (fun w' => w'.cell? ⟨b0, off, none⟩ = some (.int .i64 a.k) ∧ w'.cell? ⟨b0, off + 1, none⟩ = some (.int .i64 a.i) ∧ w'.cell? ⟨b0, off + 2, none⟩ = some (.string a.s) ∧ w'.cell? ⟨b0, off + 3, none⟩ = some (.int .i64 b.k) ∧ w'.cell? ⟨b0, off + 3 + 1, none⟩ = some (.int .i64 b.i) ∧ w'.cell? ⟨b0, off + 3 + 2, none⟩ = some (.string b.s)) (first | exact ⟨x0, x1, x2, x3, x4, x5⟩ | exact ⟨y0, y1, y2, y3, y4, y5⟩ | exact ⟨cell_set3 hbw y0, cell_set3 hbw y1, cell_set3 hbw y2, cell_set3 hbw y3, cell_set3 hbw y4, cell_set3 hbw y5⟩) ((first
          | (go_at_call 84; (with_reducible refine (HP.out _).mono ?_); rintro e w7 ⟨rfl, hb7⟩; have bR7 := bR.drew.below hb7; have h7 := hb.drew.trans (hb7.mono hb.drew.size); have hlw := World.block_lt_of_cell? _ _ x0; have y0 := (hb7.cell (p := ⟨b0, off, none⟩) hlw).trans x0; have y1 := (hb7.cell (p := ⟨b0, off + 1, none⟩) hlw).trans x1; have y2 := (hb7.cell (p := ⟨b0, off + 2, none⟩) hlw).trans x2; have y3 := (hb7.cell (p := ⟨b0, off + 3, none⟩) hlw).trans x3; have y4 := (hb7.cell (p := ⟨b0, off + 3 + 1, none⟩) hlw).trans x4; have y5 := (hb7.cell (p := ⟨b0, off + 3 + 2, none⟩) hlw).trans x5; have r0 := bR7.cell 0; have r1 := bR7.cell 1; have r2 := bR7.cell 2; have f0 := bR7.frozen 0; have f1 := bR7.frozen 1; have f2 := bR7.frozen 2; simp only [List.getElem?_toArray, List.getElem?_cons_zero, List.getElem?_cons_succ] at r0 r1 r2)))
        go_step
        go_step
        go_wp2_with fail
        refine bodyPost_ret ?_ rfl ⟨rfl, ?_⟩
        · simp [results, Tryz.results60, go_sem, r0, r1, r2]
        · exact (((h7.setCell (by simp; try omega) _).setCell (by simp; try omega) _).setCell (by simp; try omega) _)

set_option maxRecDepth 100000 in
set_option maxHeartbeats 8000000 in
theorem apply_reckon (op : Int) (hop : op = 3 ∨ op = 4 ∨ op = 5 ∨ op = 6) (L : List Dat) (v : Value) (w : World) (hv : DatV w v L) (a b : Dat) (hL : L = [a, b]) (hT : Tabs w) (h0 : 0 < L.length) (hl : (L.length : Int) = arityR op) (ha : L.all rightD = true) (t : Tri) (HP : Hid (∀ w', Calls Tryz.prog 88 #[.int .i64 op, datVal a, datVal b] w' (ResT t w'))) :
    Calls Tryz.prog 60 #[.int .i64 op, v] w (ResT t w) := by
  obtain ⟨A, c, rfl, hc, hm⟩ := hv.len
  have HM := Lib.hid (fun w => arity_any op w)
  rw [← hl] at HM
  have hm0 : ((L.length : Int) == 0) = false := beq_eq_false_iff_ne.2 (by omega)
  have HV := Lib.hid hv
  have HA := Lib.hid ha
  have HT := Lib.hid hT
  have HL := Lib.hid hL
  have HOP := Lib.hid hop
  clear hL hop
  clear hv hl h0 ha hT
  unfold maxLen at hm
  have hb0 := (Below.refl w.heap.size w).alloc (Nat.le_refl _) (.cells #[.int .i64 0, .int .i64 0, .string noText] 27)
  have bR := Blk.new w #[.int .i64 0, .int .i64 0, .string noText] 27
  go_enter Tryz.func60, Tryz.ntmps60
  go_wp2_with (go_at_call 82; (with_reducible refine (HM.out _).mono ?_); rintro e w' ⟨rfl, rfl⟩)
  go_loopw [22] (fun i wr => ∃ n : Nat, i = .int .i64 n ∧ n ≤ L.length ∧ Hid ((L.take n).all rightD = true) ∧ Below w.heap.size w wr ∧ Blk wr w.heap.size #[.int .i64 0, .int .i64 0, .string noText] 27) (fun i _ => L.length - (intOf i).toNat)
  case atStart => exact ⟨0, rfl, Nat.zero_le _, rfl, hb0, bR⟩
  case round =>
    clear hb0 bR
    obtain ⟨n, rfl, hn, HN, hb, bR⟩ := hrel
    by_cases hlt : n < L.length
    · rcases HV.out with ⟨_, h0⟩ | ⟨b, off, c', e, _, hbl, hat, _⟩
      · rw [h0] at hlt; simp at hlt
      · injection e with e1 e2 e3
        subst e1 e3
        obtain ⟨h0, h1, h2⟩ := (hat.block (hb.block b hbl)).dat n hlt
        have HP : Hid (rightD L[n] = true → (L.take (n + 1)).all rightD = true) := fun hp => all_take hlt HN.out hp
        have HE : Hid (L[n] ∈ L) := List.getElem_mem hlt
        clear hat hbl hn HN
        revert HP HE h0 h1 h2
        generalize L[n] = d
        obtain ⟨dk, di, ds⟩ := d
        intro h0 h1 h2 HP HE
        simp only at h0 h1 h2
        have hz := hb.size
        have hn1 : (n : Int) + 1 ≤ 9223372036854775807 := by omega
        have bRo := bR.alloc (.cells #[.int .i64 dk, .int .i64 di, .string ds] 27)
        have hbo := hb.alloc hz (.cells #[.int .i64 dk, .int .i64 di, .string ds] 27)
        have HR := Lib.hid (right_any dk di ds _ (HT.out.below hbo))
        clear HM
        cases hd : rightD ⟨dk, di, ds⟩
        · have := List.all_eq_true.1 HA.out _ HE.out
          rw [hd] at this
          cases this
        · rw [hd] at HR
          have HQ := Lib.hid (HP.out hd)
          clear hd HP HA HE
          go_wp2_with (go_at_call 27; (with_reducible refine HR.out.mono ?_); rintro e w5 ⟨rfl, hb5⟩; have bR5 := bRo.below hb5; have h5 := hbo.trans (hb5.mono hbo.size))
          refine ⟨⟨n + 1, by go_num, hlt, HQ, h5, bR5⟩, ?_⟩
          simp [intOf]
          go_num
    · clear HN HA HM
      have hL := HL.out
      rcases HV.out with ⟨_, q0⟩ | ⟨b0, off, c', e, _, hbl, hat, _⟩
      · rw [hL] at q0; cases q0
      · injection e with e1 e2 e3
        subst e1 e3
        have hlt0 : 0 < L.length := by rw [hL]; simp
        have hlt1 : 1 < L.length := by rw [hL]; simp
        obtain ⟨x0, x1, x2⟩ := (hat.block (hb.block b0 hbl)).dat 0 hlt0
        obtain ⟨x3, x4, x5⟩ := (hat.block (hb.block b0 hbl)).dat 1 hlt1
        have e0 : L[0] = a := by simp [hL]
        have e1 : L[1] = b := by simp [hL]
        rw [e0] at x0 x1 x2
        rw [e1] at x3 x4 x5
        simp only [Nat.zero_mul, Nat.one_mul, Nat.add_zero] at x0 x1 x2 x3 x4 x5
        have hl1 : L.length = 2 := by rw [hL]; rfl
        have hc1 : (2 : Int) ≤ c := by omega
        obtain rfl : n = 2 := by omega
        have hbw : b0 ≠ w.heap.size := by omega
        rw [hl1]
        clear hat e0 e1 HV hL hl1 hlt hn hlt0 hlt1
        have hop := HOP.out
        rcases hop with rfl | rfl | rfl | rfl
        all_goals
          go_wp2_with fail
          go_region_held3 (fun w' => w'.cell? ⟨b0, off, none⟩ = some (.int .i64 a.k) ∧ w'.cell? ⟨b0, off + 1, none⟩ = some (.int .i64 a.i) ∧ w'.cell? ⟨b0, off + 2, none⟩ = some (.string a.s) ∧ w'.cell? ⟨b0, off + 3, none⟩ = some (.int .i64 b.k) ∧ w'.cell? ⟨b0, off + 3 + 1, none⟩ = some (.int .i64 b.i) ∧ w'.cell? ⟨b0, off + 3 + 2, none⟩ = some (.string b.s)) (first | exact ⟨x0, x1, x2, x3, x4, x5⟩ | exact ⟨y0, y1, y2, y3, y4, y5⟩ | exact ⟨cell_set3 hbw y0, cell_set3 hbw y1, cell_set3 hbw y2, cell_set3 hbw y3, cell_set3 hbw y4, cell_set3 hbw y5⟩) ((first
            | (go_at_call 88; (with_reducible refine (HP.out _).mono ?_); rintro e w7 ⟨rfl, hb7⟩; have bR7 := bR.drew.below hb7; have h7 := hb.drew.trans (hb7.mono hb.drew.size); have hlw := World.block_lt_of_cell? _ _ x0; have y0 := (hb7.cell (p := ⟨b0, off, none⟩) hlw).trans x0; have y1 := (hb7.cell (p := ⟨b0, off + 1, none⟩) hlw).trans x1; have y2 := (hb7.cell (p := ⟨b0, off + 2, none⟩) hlw).trans x2; have y3 := (hb7.cell (p := ⟨b0, off + 3, none⟩) hlw).trans x3; have y4 := (hb7.cell (p := ⟨b0, off + 3 + 1, none⟩) hlw).trans x4; have y5 := (hb7.cell (p := ⟨b0, off + 3 + 2, none⟩) hlw).trans x5; have r0 := bR7.cell 0; have r1 := bR7.cell 1; have r2 := bR7.cell 2; have f0 := bR7.frozen 0; have f1 := bR7.frozen 1; have f2 := bR7.frozen 2; simp only [List.getElem?_toArray, List.getElem?_cons_zero, List.getElem?_cons_succ] at r0 r1 r2)))
          go_step
          go_step
          go_wp2_with fail
          refine bodyPost_ret ?_ rfl ⟨rfl, ?_⟩
          · simp [results, Tryz.results60, go_sem, r0, r1, r2]
          · exact (((h7.setCell (by simp; try omega) _).setCell (by simp; try omega) _).setCell (by simp; try omega) _)

set_option maxRecDepth 100000 in
set_option maxHeartbeats 8000000 in
theorem apply_relate (op : Int) (hop : op = 7 ∨ op = 8 ∨ op = 9 ∨ op = 10 ∨ op = 11 ∨ op = 12) (L : List Dat) (v : Value) (w : World) (hv : DatV w v L) (a b : Dat) (hL : L = [a, b]) (hT : Tabs w) (h0 : 0 < L.length) (hl : (L.length : Int) = arityR op) (ha : L.all rightD = true) (t : Tri) (HP : Hid (∀ w', Calls Tryz.prog 90 #[.int .i64 op, datVal a, datVal b] w' (ResT t w'))) :
    Calls Tryz.prog 60 #[.int .i64 op, v] w (ResT t w) := by
  obtain ⟨A, c, rfl, hc, hm⟩ := hv.len
  have HM := Lib.hid (fun w => arity_any op w)
  rw [← hl] at HM
  have hm0 : ((L.length : Int) == 0) = false := beq_eq_false_iff_ne.2 (by omega)
  have HV := Lib.hid hv
  have HA := Lib.hid ha
  have HT := Lib.hid hT
  have HL := Lib.hid hL
  have HOP := Lib.hid hop
  clear hL hop
  clear hv hl h0 ha hT
  unfold maxLen at hm
  have hb0 := (Below.refl w.heap.size w).alloc (Nat.le_refl _) (.cells #[.int .i64 0, .int .i64 0, .string noText] 27)
  have bR := Blk.new w #[.int .i64 0, .int .i64 0, .string noText] 27
  go_enter Tryz.func60, Tryz.ntmps60
  go_wp2_with (go_at_call 82; (with_reducible refine (HM.out _).mono ?_); rintro e w' ⟨rfl, rfl⟩)
  go_loopw [22] (fun i wr => ∃ n : Nat, i = .int .i64 n ∧ n ≤ L.length ∧ Hid ((L.take n).all rightD = true) ∧ Below w.heap.size w wr ∧ Blk wr w.heap.size #[.int .i64 0, .int .i64 0, .string noText] 27) (fun i _ => L.length - (intOf i).toNat)
  case atStart => exact ⟨0, rfl, Nat.zero_le _, rfl, hb0, bR⟩
  case round =>
    clear hb0 bR
    obtain ⟨n, rfl, hn, HN, hb, bR⟩ := hrel
    by_cases hlt : n < L.length
    · rcases HV.out with ⟨_, h0⟩ | ⟨b, off, c', e, _, hbl, hat, _⟩
      · rw [h0] at hlt; simp at hlt
      · injection e with e1 e2 e3
        subst e1 e3
        obtain ⟨h0, h1, h2⟩ := (hat.block (hb.block b hbl)).dat n hlt
        have HP : Hid (rightD L[n] = true → (L.take (n + 1)).all rightD = true) := fun hp => all_take hlt HN.out hp
        have HE : Hid (L[n] ∈ L) := List.getElem_mem hlt
        clear hat hbl hn HN
        revert HP HE h0 h1 h2
        generalize L[n] = d
        obtain ⟨dk, di, ds⟩ := d
        intro h0 h1 h2 HP HE
        simp only at h0 h1 h2
        have hz := hb.size
        have hn1 : (n : Int) + 1 ≤ 9223372036854775807 := by omega
        have bRo := bR.alloc (.cells #[.int .i64 dk, .int .i64 di, .string ds] 27)
        have hbo := hb.alloc hz (.cells #[.int .i64 dk, .int .i64 di, .string ds] 27)
        have HR := Lib.hid (right_any dk di ds _ (HT.out.below hbo))
        clear HM
        cases hd : rightD ⟨dk, di, ds⟩
        · have := List.all_eq_true.1 HA.out _ HE.out
          rw [hd] at this
          cases this
        · rw [hd] at HR
          have HQ := Lib.hid (HP.out hd)
          clear hd HP HA HE
          go_wp2_with (go_at_call 27; (with_reducible refine HR.out.mono ?_); rintro e w5 ⟨rfl, hb5⟩; have bR5 := bRo.below hb5; have h5 := hbo.trans (hb5.mono hbo.size))
          refine ⟨⟨n + 1, by go_num, hlt, HQ, h5, bR5⟩, ?_⟩
          simp [intOf]
          go_num
    · clear HN HA HM
      have hL := HL.out
      rcases HV.out with ⟨_, q0⟩ | ⟨b0, off, c', e, _, hbl, hat, _⟩
      · rw [hL] at q0; cases q0
      · injection e with e1 e2 e3
        subst e1 e3
        have hlt0 : 0 < L.length := by rw [hL]; simp
        have hlt1 : 1 < L.length := by rw [hL]; simp
        obtain ⟨x0, x1, x2⟩ := (hat.block (hb.block b0 hbl)).dat 0 hlt0
        obtain ⟨x3, x4, x5⟩ := (hat.block (hb.block b0 hbl)).dat 1 hlt1
        have e0 : L[0] = a := by simp [hL]
        have e1 : L[1] = b := by simp [hL]
        rw [e0] at x0 x1 x2
        rw [e1] at x3 x4 x5
        simp only [Nat.zero_mul, Nat.one_mul, Nat.add_zero] at x0 x1 x2 x3 x4 x5
        have hl1 : L.length = 2 := by rw [hL]; rfl
        have hc1 : (2 : Int) ≤ c := by omega
        obtain rfl : n = 2 := by omega
        have hbw : b0 ≠ w.heap.size := by omega
        rw [hl1]
        clear hat e0 e1 HV hL hl1 hlt hn hlt0 hlt1
        have hop := HOP.out
        rcases hop with rfl | rfl | rfl | rfl | rfl | rfl
        all_goals
          go_wp2_with fail
          go_region_held3 (fun w' => w'.cell? ⟨b0, off, none⟩ = some (.int .i64 a.k) ∧ w'.cell? ⟨b0, off + 1, none⟩ = some (.int .i64 a.i) ∧ w'.cell? ⟨b0, off + 2, none⟩ = some (.string a.s) ∧ w'.cell? ⟨b0, off + 3, none⟩ = some (.int .i64 b.k) ∧ w'.cell? ⟨b0, off + 3 + 1, none⟩ = some (.int .i64 b.i) ∧ w'.cell? ⟨b0, off + 3 + 2, none⟩ = some (.string b.s)) (first | exact ⟨x0, x1, x2, x3, x4, x5⟩ | exact ⟨y0, y1, y2, y3, y4, y5⟩ | exact ⟨cell_set3 hbw y0, cell_set3 hbw y1, cell_set3 hbw y2, cell_set3 hbw y3, cell_set3 hbw y4, cell_set3 hbw y5⟩) ((first
            | (go_at_call 90; (with_reducible refine (HP.out _).mono ?_); rintro e w7 ⟨rfl, hb7⟩; have bR7 := bR.drew.below hb7; have h7 := hb.drew.trans (hb7.mono hb.drew.size); have hlw := World.block_lt_of_cell? _ _ x0; have y0 := (hb7.cell (p := ⟨b0, off, none⟩) hlw).trans x0; have y1 := (hb7.cell (p := ⟨b0, off + 1, none⟩) hlw).trans x1; have y2 := (hb7.cell (p := ⟨b0, off + 2, none⟩) hlw).trans x2; have y3 := (hb7.cell (p := ⟨b0, off + 3, none⟩) hlw).trans x3; have y4 := (hb7.cell (p := ⟨b0, off + 3 + 1, none⟩) hlw).trans x4; have y5 := (hb7.cell (p := ⟨b0, off + 3 + 2, none⟩) hlw).trans x5; have r0 := bR7.cell 0; have r1 := bR7.cell 1; have r2 := bR7.cell 2; have f0 := bR7.frozen 0; have f1 := bR7.frozen 1; have f2 := bR7.frozen 2; simp only [List.getElem?_toArray, List.getElem?_cons_zero, List.getElem?_cons_succ] at r0 r1 r2)))
          go_step
          go_step
          go_wp2_with fail
          refine bodyPost_ret ?_ rfl ⟨rfl, ?_⟩
          · simp [results, Tryz.results60, go_sem, r0, r1, r2]
          · exact (((h7.setCell (by simp; try omega) _).setCell (by simp; try omega) _).setCell (by simp; try omega) _)


end Go.Proofs.YtippffjhkinfoaaGreatDoor
