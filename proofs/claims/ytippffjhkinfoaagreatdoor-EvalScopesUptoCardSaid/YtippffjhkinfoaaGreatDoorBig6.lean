/-
  The reference's whole numbers: whether one fits.
-/
import Derived.Test.YtippffjhkinfoaaGreatDoorBig5
namespace Go.Proofs.YtippffjhkinfoaaGreatDoor
open Go.RowKit

theorem neg_back (V : Int) (h0 : 0 ≤ V) (h1 : V ≤ 9223372036854775808) : wrap64 (IntKind.u64.wrap (-V)) = -V := by
  simp only [IntKind.wrap, IntKind.bits, IntKind.signed]
  unfold wrap64
  simp
  omega
set_option maxRecDepth 100000 in
set_option maxHeartbeats 4000000 in
theorem fits_pos (v : Value) (L : List Int) (w : World) (h : DigV w v L) (hn : Norm L) (hl : L.length ≤ 5000) (hf : valD L ≤ 9223372036854775807) :
    Calls Tryz.prog 47 #[.agg #[.bool false, v]] w fun e w' => e = .returned (.tuple #[.int .i64 (zOf false L), .bool true]) ∧ Below w.heap.size w w' := by
  obtain ⟨A, c, rfl, hc, HA⟩ := DigV.open h
  have HD := Lib.hid h
  have HN := Lib.hid hn
  have HF := Lib.hid hf
  have hb0 := (Below.refl w.heap.size w).alloc (Nat.le_refl _) (Obj.cells #[Value.bool false, Value.slice A L.length c] 73)
  have s1 := Blk.new w #[Value.bool false, Value.slice A L.length c] 73
  clear h hn hf
  go_enter Tryz.func47, Tryz.ntmps47
  go_wp2_with fail
  refine (of_any 9223372036854775807 _ (by decide) (by decide)).mono ?_
  rintro e w1 ⟨v', L1, rfl, hd1, hn1, hv1, hb1⟩
  obtain ⟨A', c', rfl, _, _⟩ := DigV.open hd1.1
  have hbw1 := hb0.trans (hb1.mono hb0.size)
  have b1 := s1.below hb1
  have x0 := fun X => (b1.alloc X).cell 0
  have x1 := fun X => (b1.alloc X).cell 1
  simp only [List.getElem?_toArray, List.getElem?_cons_zero, List.getElem?_cons_succ] at x0 x1
  go_wp2_with fail
  have hM : valD L1 = 9223372036854775807 := by rw [hv1]; rfl
  have hbw2 := hbw1.alloc hbw1.size (Obj.cells #[Value.bool false, Value.slice A' L1.length c'] 73)
  have b2 := b1.alloc (Obj.cells #[Value.bool false, Value.slice A' L1.length c'] 73)
  have hdM := hd1.1.below ((Below.refl w1.heap.size w1).alloc (Nat.le_refl _) (Obj.cells #[Value.bool false, Value.slice A' L1.length c'] 73))
  have hq : ordI (valD L) (valD L1) ≤ 0 := by
    have := HF.out
    rcases ordI_cases (valD L) (valD L1) with h | h | h <;> omega
  have hbA := Lib.hid (amounts_any false false _ _ L L1 (w1.alloc (Obj.cells #[Value.bool false, Value.slice A' L1.length c'] 73)) (HD.out.below hbw2) hdM HN.out hn1 hl)
  revert hbA hq
  generalize ordI (valD L) (valD L1) = q
  intro hq hbA
  refine hbA.out.mono ?_
  rintro e w3 ⟨rfl, hb3⟩
  have hbw3 := hbw2.trans (hb3.mono hbw2.size)
  have b3 := b2.below hb3
  have y0 := b3.cell 0
  have y1 := b3.cell 1
  simp only [List.getElem?_toArray, List.getElem?_cons_zero, List.getElem?_cons_succ] at y0 y1
  clear hbA x0 x1 b2
  go_wp2_with fail
  go_loop [5, 6] (fun n i => ∃ k : Nat, k ≤ L.length ∧ n = .int .u64 (valD (L.drop k)) ∧ i = .int .i64 ((k : Int) - 1)) (fun _ i => (intOf i + 1).toNat)
  case atStart => exact ⟨L.length, Nat.le_refl _, by rw [List.drop_length]; rfl, rfl⟩
  case round =>
    obtain ⟨k, hk, rfl, hi⟩ := hrel
    cases k with
    | zero =>
      have hi' : u6 = .int .i64 (-1) := by rw [hi]; rfl
      subst hi'
      clear hi
      rw [List.drop_zero]
      have hv0 := (valD_bound HN.out.1).1
      have hv1 := HF.out
      go_wp2_with fail
      go_ret2
      exact ⟨rfl, hbw3⟩
    | succ i =>
      have hi' : u6 = .int .i64 (i : Int) := by rw [hi]; congr 1; omega
      subst hi'
      clear hi
      obtain ⟨q1, o1, rfl, hq1, hat1⟩ := HA.out.resolve_left (by rintro rfl; simp at hk)
      have e1 := (hbw3.cell (p := ⟨q1, o1 + i, none⟩) hq1).trans (hat1 i L[i] (List.getElem?_eq_getElem (by omega)))
      have hd := HN.out.1 L[i] (List.getElem_mem (by omega))
      have hs := valD_drop L i (by omega)
      have h1 := valD_drop_le HN.out.1 i (by omega)
      have h2 := (valD_bound (HN.out.1.drop (i + 1))).1
      have h3 := HF.out
      have HS := Lib.hid hs
      have hle : L[i] + 1000000 * valD (L.drop (i + 1)) ≤ 9223372036854775807 := by omega
      clear hat1 hs h1 h3
      revert e1 hd h2 HS hle
      generalize L[i] = x
      generalize valD (L.drop (i + 1)) = V
      intro e1 hd h2 HS hle
      go_wp2_with fail
      exact ⟨⟨i, by omega, by rw [HS.out]; congr 1; omega, by go_num⟩, by simp [intOf]⟩
set_option maxRecDepth 100000 in
set_option maxHeartbeats 4000000 in
theorem fits_over (v : Value) (L : List Int) (w : World) (h : DigV w v L) (hn : Norm L) (hl : L.length ≤ 5000) (hf : 9223372036854775807 < valD L) :
    Calls Tryz.prog 47 #[.agg #[.bool false, v]] w fun e w' => e = .returned (.tuple #[.int .i64 0, .bool false]) ∧ Below w.heap.size w w' := by
  obtain ⟨A, c, rfl, hc, HA⟩ := DigV.open h
  have HD := Lib.hid h
  have HN := Lib.hid hn
  have HF := Lib.hid hf
  have hb0 := (Below.refl w.heap.size w).alloc (Nat.le_refl _) (Obj.cells #[Value.bool false, Value.slice A L.length c] 73)
  have s1 := Blk.new w #[Value.bool false, Value.slice A L.length c] 73
  clear h hn hf
  go_enter Tryz.func47, Tryz.ntmps47
  go_wp2_with fail
  refine (of_any 9223372036854775807 _ (by decide) (by decide)).mono ?_
  rintro e w1 ⟨v', L1, rfl, hd1, hn1, hv1, hb1⟩
  obtain ⟨A', c', rfl, _, _⟩ := DigV.open hd1.1
  have hbw1 := hb0.trans (hb1.mono hb0.size)
  have b1 := s1.below hb1
  have x0 := fun X => (b1.alloc X).cell 0
  have x1 := fun X => (b1.alloc X).cell 1
  simp only [List.getElem?_toArray, List.getElem?_cons_zero, List.getElem?_cons_succ] at x0 x1
  go_wp2_with fail
  have hM : valD L1 = 9223372036854775807 := by rw [hv1]; rfl
  have hbw2 := hbw1.alloc hbw1.size (Obj.cells #[Value.bool false, Value.slice A' L1.length c'] 73)
  have b2 := b1.alloc (Obj.cells #[Value.bool false, Value.slice A' L1.length c'] 73)
  have hdM := hd1.1.below ((Below.refl w1.heap.size w1).alloc (Nat.le_refl _) (Obj.cells #[Value.bool false, Value.slice A' L1.length c'] 73))
  have hq : ordI (valD L) (valD L1) = 1 := by
    have := HF.out
    rcases ordI_cases (valD L) (valD L1) with h | h | h <;> omega
  have hbA := Lib.hid (amounts_any false false _ _ L L1 (w1.alloc (Obj.cells #[Value.bool false, Value.slice A' L1.length c'] 73)) (HD.out.below hbw2) hdM HN.out hn1 hl)
  revert hbA hq
  generalize ordI (valD L) (valD L1) = q
  intro hq hbA
  refine hbA.out.mono ?_
  rintro e w3 ⟨rfl, hb3⟩
  have hbw3 := hbw2.trans (hb3.mono hbw2.size)
  have b3 := b2.below hb3
  have y0 := b3.cell 0
  have y1 := b3.cell 1
  simp only [List.getElem?_toArray, List.getElem?_cons_zero, List.getElem?_cons_succ] at y0 y1
  clear hbA x0 x1 b2
  go_wp2_with fail
  go_ret2
  exact ⟨rfl, hbw3⟩
set_option maxRecDepth 100000 in
set_option maxHeartbeats 4000000 in
theorem fits_neg (v : Value) (L : List Int) (w : World) (h : DigV w v L) (hn : Norm L) (hl : L.length ≤ 5000) (hf : valD L ≤ 9223372036854775808) :
    Calls Tryz.prog 47 #[.agg #[.bool true, v]] w fun e w' => e = .returned (.tuple #[.int .i64 (zOf true L), .bool true]) ∧ Below w.heap.size w w' := by
  obtain ⟨A, c, rfl, hc, HA⟩ := DigV.open h
  have HD := Lib.hid h
  have HN := Lib.hid hn
  have HF := Lib.hid hf
  have hb0 := (Below.refl w.heap.size w).alloc (Nat.le_refl _) (Obj.cells #[Value.bool true, Value.slice A L.length c] 73)
  have s1 := Blk.new w #[Value.bool true, Value.slice A L.length c] 73
  clear h hn hf
  go_enter Tryz.func47, Tryz.ntmps47
  go_wp2_with fail
  refine (of_any 9223372036854775807 _ (by decide) (by decide)).mono ?_
  rintro e w1 ⟨v', L1, rfl, hd1, hn1, hv1, hb1⟩
  obtain ⟨A', c', rfl, _, _⟩ := DigV.open hd1.1
  have hbw1 := hb0.trans (hb1.mono hb0.size)
  have b1 := s1.below hb1
  have x0 := fun X => (b1.alloc X).cell 0
  have x1 := fun X => (b1.alloc X).cell 1
  simp only [List.getElem?_toArray, List.getElem?_cons_zero, List.getElem?_cons_succ] at x0 x1
  go_wp2_with fail
  have bM := Blk.new w1 #[Value.bool false, Value.slice A' L1.length c'] 73
  have hl1 : L1.length ≤ 5000 := by have := hn1.len4 (by rw [hv1]; decide); omega
  go_region_with (first | (go_at_call 50; refine (of_any 1 _ (by decide) (by decide)).mono ?_; rintro e w2 ⟨v2', L2, rfl, hd2, hn2, hv2, hb2⟩; obtain ⟨A2, c2, rfl, hq2, hQ2⟩ := DigV.open hd2.1; clear hq2 hQ2; have bM2 := bM.drew.below hb2; have t0 := bM2.cell 0; have t1 := bM2.cell 1; simp only [List.getElem?_toArray, List.getElem?_cons_zero, List.getElem?_cons_succ] at t0 t1; have hl2 : L2.length ≤ 5000 := by have := hn2.len4 (by rw [hv2]; decide); omega) | (go_at_call 68; refine (added_any false false _ _ L1 L2 _ (hd1.1.below (((Below.refl _ _).alloc (Nat.le_refl _) _).drew.trans (hb2.mono (by simp)))) hd2.1 hn1 hn2 hl1 hl2).mono ?_; rintro e w3 ⟨v3, L3, rfl, hd3, hn3, hv3, hb3⟩; obtain ⟨A3, c3, rfl, hq3, hQ3⟩ := DigV.open hd3.1; clear hq3 hQ3; have bM3 := bM2.below hb3; have z0 := bM3.cell 0; have z1 := bM3.cell 1; have f0 := bM3.frozen 0; have f1 := bM3.frozen 1; simp only [List.getElem?_toArray, List.getElem?_cons_zero, List.getElem?_cons_succ] at z0 z1))
  all_goals
    first | (rename_i K0 hK0 _; change K0 _ _; refine hK0 _ _ ?_) | (rename_i K0 hK0; change K0 _ _; refine hK0 _ _ ?_)
    have hw12 := (hbw1.alloc hbw1.size (Obj.cells #[Value.bool false, Value.slice A' L1.length c'] 73)).drew
    have hw13 := hw12.trans (hb2.mono hw12.size)
    have hw14 := hw13.trans (hb3.mono hw13.size)
    have hz12 := hb2.size
    have hz12' : w1.heap.size + 1 ≤ w2.heap.size := by simpa using hz12
    have hbw2 := (hw14.setCell (p := ⟨w1.heap.size, 0, none⟩) hbw1.size (.bool false)).setCell (p := ⟨w1.heap.size, 1, none⟩) hbw1.size (.slice A3 L3.length c3)
    have b2 := ((((b1.alloc (Obj.cells #[Value.bool false, Value.slice A' L1.length c'] 73)).drew.below hb2).below hb3).setOther (b' := w1.heap.size) (by have := b1.lt; omega) 0 (.bool false)).setOther (b' := w1.heap.size) (by have := b1.lt; omega) 1 (.slice A3 L3.length c3)
    have hdM : DigV _ (.slice A3 L3.length c3) L3 := ((hd3.set (b := w1.heap.size) (j := 0) (u := .bool false) (by omega)).set (b := w1.heap.size) (j := 1) (u := .slice A3 L3.length c3) (by omega)).1
    have hM : valD L3 = 9223372036854775808 := by rw [hv3, hv1, hv2]; rfl
    have bW := (bM3.set 0 (.bool false)).set 1 (.slice A3 L3.length c3)
    clear hd1 hn1 hv1 hd2 hn2 hv2 hd3 hv3 hb2 hb3 bM bM2 bM3 hw12 hw13 hw14 hz12 hz12' hl1 hl2 x0 x1 b1 z0 z1 f0 f1 t0 t1
    revert hbw2 b2 hdM bW
    generalize ((w3.setCell ⟨w1.heap.size, 0, none⟩ (.bool false)).setCell ⟨w1.heap.size, 1, none⟩ (.slice A3 L3.length c3)) = wB
    intro hbw2 b2 hdM bW
    have x0 := b2.cell 0
    have x1 := b2.cell 1
    have m0 := bW.cell 0
    have m1 := bW.cell 1
    simp only [List.setIfInBounds_toArray, List.set_cons_zero, List.set_cons_succ, List.getElem?_toArray, List.getElem?_cons_zero, List.getElem?_cons_succ] at x0 x1 m0 m1
    go_wp2_with fail
    have hq : ordI (valD L) (valD L3) ≤ 0 := by
      have := HF.out
      rcases ordI_cases (valD L) (valD L3) with h | h | h <;> omega
    have hbA := Lib.hid (amounts_any true false _ _ L L3 wB (HD.out.below hbw2) hdM HN.out hn3 hl)
    revert hbA hq
    generalize ordI (valD L) (valD L3) = q
    intro hq hbA
    refine hbA.out.mono ?_
    rintro e w3 ⟨rfl, hb3⟩
    have hbw3 := hbw2.trans (hb3.mono hbw2.size)
    have b3 := b2.below hb3
    have y0 := b3.cell 0
    have y1 := b3.cell 1
    simp only [List.getElem?_toArray, List.getElem?_cons_zero, List.getElem?_cons_succ] at y0 y1
    clear hbA x0 x1 b2
    go_wp2_with fail
    go_loop [5, 6] (fun n i => ∃ k : Nat, k ≤ L.length ∧ n = .int .u64 (valD (L.drop k)) ∧ i = .int .i64 ((k : Int) - 1)) (fun _ i => (intOf i + 1).toNat)
    case atStart => exact ⟨L.length, Nat.le_refl _, by rw [List.drop_length]; rfl, rfl⟩
    case round =>
      obtain ⟨k, hk, rfl, hi⟩ := hrel
      cases k with
      | zero =>
        have hi' : u6 = .int .i64 (-1) := by rw [hi]; rfl
        subst hi'
        clear hi
        rw [List.drop_zero]
        have hv0 := (valD_bound HN.out.1).1
        have hv1 := HF.out
        go_wp2_with fail
        go_ret2
        exact ⟨congrArg (fun z => Ending.returned (.tuple #[.int .i64 z, .bool true])) (neg_back (valD L) hv0 hv1), hbw3⟩
      | succ i =>
        have hi' : u6 = .int .i64 (i : Int) := by rw [hi]; congr 1; omega
        subst hi'
        clear hi
        obtain ⟨q1, o1, rfl, hq1, hat1⟩ := HA.out.resolve_left (by rintro rfl; simp at hk)
        have e1 := (hbw3.cell (p := ⟨q1, o1 + i, none⟩) hq1).trans (hat1 i L[i] (List.getElem?_eq_getElem (by omega)))
        have hd := HN.out.1 L[i] (List.getElem_mem (by omega))
        have hs := valD_drop L i (by omega)
        have h1 := valD_drop_le HN.out.1 i (by omega)
        have h2 := (valD_bound (HN.out.1.drop (i + 1))).1
        have h3 := HF.out
        have HS := Lib.hid hs
        have hle : L[i] + 1000000 * valD (L.drop (i + 1)) ≤ 9223372036854775808 := by omega
        clear hat1 hs h1 h3
        revert e1 hd h2 HS hle
        generalize L[i] = x
        generalize valD (L.drop (i + 1)) = V
        intro e1 hd h2 HS hle
        go_wp2_with fail
        exact ⟨⟨i, by omega, by rw [HS.out]; congr 1; omega, by go_num⟩, by simp [intOf]⟩
set_option maxRecDepth 100000 in
set_option maxHeartbeats 4000000 in
theorem fits_under (v : Value) (L : List Int) (w : World) (h : DigV w v L) (hn : Norm L) (hl : L.length ≤ 5000) (hf : 9223372036854775808 < valD L) :
    Calls Tryz.prog 47 #[.agg #[.bool true, v]] w fun e w' => e = .returned (.tuple #[.int .i64 0, .bool false]) ∧ Below w.heap.size w w' := by
  obtain ⟨A, c, rfl, hc, HA⟩ := DigV.open h
  have HD := Lib.hid h
  have HN := Lib.hid hn
  have HF := Lib.hid hf
  have hb0 := (Below.refl w.heap.size w).alloc (Nat.le_refl _) (Obj.cells #[Value.bool true, Value.slice A L.length c] 73)
  have s1 := Blk.new w #[Value.bool true, Value.slice A L.length c] 73
  clear h hn hf
  go_enter Tryz.func47, Tryz.ntmps47
  go_wp2_with fail
  refine (of_any 9223372036854775807 _ (by decide) (by decide)).mono ?_
  rintro e w1 ⟨v', L1, rfl, hd1, hn1, hv1, hb1⟩
  obtain ⟨A', c', rfl, _, _⟩ := DigV.open hd1.1
  have hbw1 := hb0.trans (hb1.mono hb0.size)
  have b1 := s1.below hb1
  have x0 := fun X => (b1.alloc X).cell 0
  have x1 := fun X => (b1.alloc X).cell 1
  simp only [List.getElem?_toArray, List.getElem?_cons_zero, List.getElem?_cons_succ] at x0 x1
  go_wp2_with fail
  have bM := Blk.new w1 #[Value.bool false, Value.slice A' L1.length c'] 73
  have hl1 : L1.length ≤ 5000 := by have := hn1.len4 (by rw [hv1]; decide); omega
  go_region_with (first | (go_at_call 50; refine (of_any 1 _ (by decide) (by decide)).mono ?_; rintro e w2 ⟨v2', L2, rfl, hd2, hn2, hv2, hb2⟩; obtain ⟨A2, c2, rfl, hq2, hQ2⟩ := DigV.open hd2.1; clear hq2 hQ2; have bM2 := bM.drew.below hb2; have t0 := bM2.cell 0; have t1 := bM2.cell 1; simp only [List.getElem?_toArray, List.getElem?_cons_zero, List.getElem?_cons_succ] at t0 t1; have hl2 : L2.length ≤ 5000 := by have := hn2.len4 (by rw [hv2]; decide); omega) | (go_at_call 68; refine (added_any false false _ _ L1 L2 _ (hd1.1.below (((Below.refl _ _).alloc (Nat.le_refl _) _).drew.trans (hb2.mono (by simp)))) hd2.1 hn1 hn2 hl1 hl2).mono ?_; rintro e w3 ⟨v3, L3, rfl, hd3, hn3, hv3, hb3⟩; obtain ⟨A3, c3, rfl, hq3, hQ3⟩ := DigV.open hd3.1; clear hq3 hQ3; have bM3 := bM2.below hb3; have z0 := bM3.cell 0; have z1 := bM3.cell 1; have f0 := bM3.frozen 0; have f1 := bM3.frozen 1; simp only [List.getElem?_toArray, List.getElem?_cons_zero, List.getElem?_cons_succ] at z0 z1))
  all_goals
    first | (rename_i K0 hK0 _; change K0 _ _; refine hK0 _ _ ?_) | (rename_i K0 hK0; change K0 _ _; refine hK0 _ _ ?_)
    have hw12 := (hbw1.alloc hbw1.size (Obj.cells #[Value.bool false, Value.slice A' L1.length c'] 73)).drew
    have hw13 := hw12.trans (hb2.mono hw12.size)
    have hw14 := hw13.trans (hb3.mono hw13.size)
    have hz12 := hb2.size
    have hz12' : w1.heap.size + 1 ≤ w2.heap.size := by simpa using hz12
    have hbw2 := (hw14.setCell (p := ⟨w1.heap.size, 0, none⟩) hbw1.size (.bool false)).setCell (p := ⟨w1.heap.size, 1, none⟩) hbw1.size (.slice A3 L3.length c3)
    have b2 := ((((b1.alloc (Obj.cells #[Value.bool false, Value.slice A' L1.length c'] 73)).drew.below hb2).below hb3).setOther (b' := w1.heap.size) (by have := b1.lt; omega) 0 (.bool false)).setOther (b' := w1.heap.size) (by have := b1.lt; omega) 1 (.slice A3 L3.length c3)
    have hdM : DigV _ (.slice A3 L3.length c3) L3 := ((hd3.set (b := w1.heap.size) (j := 0) (u := .bool false) (by omega)).set (b := w1.heap.size) (j := 1) (u := .slice A3 L3.length c3) (by omega)).1
    have hM : valD L3 = 9223372036854775808 := by rw [hv3, hv1, hv2]; rfl
    have bW := (bM3.set 0 (.bool false)).set 1 (.slice A3 L3.length c3)
    clear hd1 hn1 hv1 hd2 hn2 hv2 hd3 hv3 hb2 hb3 bM bM2 bM3 hw12 hw13 hw14 hz12 hz12' hl1 hl2 x0 x1 b1 z0 z1 f0 f1 t0 t1
    revert hbw2 b2 hdM bW
    generalize ((w3.setCell ⟨w1.heap.size, 0, none⟩ (.bool false)).setCell ⟨w1.heap.size, 1, none⟩ (.slice A3 L3.length c3)) = wB
    intro hbw2 b2 hdM bW
    have x0 := b2.cell 0
    have x1 := b2.cell 1
    have m0 := bW.cell 0
    have m1 := bW.cell 1
    simp only [List.setIfInBounds_toArray, List.set_cons_zero, List.set_cons_succ, List.getElem?_toArray, List.getElem?_cons_zero, List.getElem?_cons_succ] at x0 x1 m0 m1
    go_wp2_with fail
    have hq : ordI (valD L) (valD L3) = 1 := by
      have := HF.out
      rcases ordI_cases (valD L) (valD L3) with h | h | h <;> omega
    have hbA := Lib.hid (amounts_any true false _ _ L L3 wB (HD.out.below hbw2) hdM HN.out hn3 hl)
    revert hbA hq
    generalize ordI (valD L) (valD L3) = q
    intro hq hbA
    refine hbA.out.mono ?_
    rintro e w3 ⟨rfl, hb3⟩
    have hbw3 := hbw2.trans (hb3.mono hbw2.size)
    have b3 := b2.below hb3
    have y0 := b3.cell 0
    have y1 := b3.cell 1
    simp only [List.getElem?_toArray, List.getElem?_cons_zero, List.getElem?_cons_succ] at y0 y1
    clear hbA x0 x1 b2
    go_wp2_with fail
    go_ret2
    exact ⟨rfl, hbw3⟩
/-- Fits: the number, if it has room. -/
def fitsB (a : Int) : Bool := decide (-9223372036854775808 ≤ a ∧ a ≤ 9223372036854775807)
def FitPost (z : Int) (w : World) (e : Ending) (w' : World) : Prop := e = .returned (.tuple #[.int .i64 (if fitsB z then z else 0), .bool (fitsB z)]) ∧ Below w.heap.size w w'
theorem fits_any (m : Bool) (v : Value) (L : List Int) (w : World) (h : DigV w v L) (hn : Norm L) (hl : L.length ≤ 5000) :
    Calls Tryz.prog 47 #[.agg #[.bool m, v]] w (FitPost (zOf m L) w) := by
  have hv := (valD_bound hn.1).1
  cases m
  · by_cases hf : valD L ≤ 9223372036854775807
    · have e : fitsB (zOf false L) = true := by unfold fitsB zOf; simp; omega
      unfold FitPost
      rw [e, if_pos rfl]
      exact fits_pos v L w h hn hl hf
    · have e : fitsB (zOf false L) = false := by unfold fitsB zOf; simp; omega
      unfold FitPost
      rw [e, if_neg (by decide)]
      exact fits_over v L w h hn hl (by omega)
  · by_cases hf : valD L ≤ 9223372036854775808
    · have e : fitsB (zOf true L) = true := by unfold fitsB zOf; simp; omega
      unfold FitPost
      rw [e, if_pos rfl]
      exact fits_neg v L w h hn hl hf
    · have e : fitsB (zOf true L) = false := by unfold fitsB zOf; simp; omega
      unfold FitPost
      rw [e, if_neg (by decide)]
      exact fits_under v L w h hn hl (by omega)

end Go.Proofs.YtippffjhkinfoaaGreatDoor
