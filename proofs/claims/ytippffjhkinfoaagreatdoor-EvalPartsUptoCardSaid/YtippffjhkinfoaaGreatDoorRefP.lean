/-
  The reference's logic, length, comparison and arithmetic: what each makes of values that may be.
-/
import Derived.Test.YtippffjhkinfoaaGreatDoorRefAll
import Derived.Deep.RegionHeld3
import Derived.Deep.Cut
namespace Go.Proofs.YtippffjhkinfoaaGreatDoor
open Go.RowKit

/-- The cells of one value. -/
def At3 (w : World) (b o : Nat) (d : Dat) : Prop := w.cell? ⟨b, o, none⟩ = some (.int .i64 d.k) ∧ w.cell? ⟨b, o + 1, none⟩ = some (.int .i64 d.i) ∧ w.cell? ⟨b, o + 2, none⟩ = some (.string d.s)
theorem At3.below {w w' : World} {b o : Nat} {d : Dat} (h : At3 w b o d) (hl : b < w.heap.size) (hb : Below w.heap.size w w') : At3 w' b o d :=
  ⟨(hb.cell (p := ⟨b, o, none⟩) hl).trans h.1, (hb.cell (p := ⟨b, o + 1, none⟩) hl).trans h.2.1, (hb.cell (p := ⟨b, o + 2, none⟩) hl).trans h.2.2⟩
set_option maxRecDepth 100000 in
set_option maxHeartbeats 8000000 in
theorem logic_type (op : Int) (L : List Dat) (v : Value) (w : World) (hv : DatV w v L) (ho : onlyR 1 1 L = false) :
    Calls Tryz.prog 22 #[.int .i64 op, v] w (ResPost 0 0 5 w) := by
  have hb0 := (Below.refl w.heap.size w).alloc (Nat.le_refl _) (.cells #[.int .i64 0, .int .i64 0, .string noText] 27)
  have bR := Blk.new w #[.int .i64 0, .int .i64 0, .string noText] 27
  have HO := Lib.hid (fun w' (hb : Below w.heap.size w w') => only_any 1 1 L v w' (hv.below hb))
  rw [ho] at HO
  go_enter Tryz.func22, Tryz.ntmps22
  go_wp2_with (go_at_call 25; have hC := HO.out _ hb0; (with_reducible refine hC.mono ?_); clear hC; rintro e w3 ⟨rfl, hb3⟩; have bR3 := bR.below hb3; have h3 := hb0.trans (hb3.mono hb0.size); have r0 := bR3.cell 0; have r1 := bR3.cell 1; have r2 := bR3.cell 2; have f0 := bR3.frozen 0; have f1 := bR3.frozen 1; have f2 := bR3.frozen 2; simp only [List.getElem?_toArray, List.getElem?_cons_zero, List.getElem?_cons_succ] at r0 r1 r2)
  refine bodyPost_ret ?_ rfl ⟨rfl, ?_⟩
  · simp [results, Tryz.results22, go_sem, r0, r1, r2]
  · exact (((h3.setCell (by simp; try omega) _).setCell (by simp; try omega) _).setCell (by simp; try omega) _)

set_option maxRecDepth 100000 in
set_option maxHeartbeats 8000000 in
theorem logic_not (a : Dat) (v : Value) (w : World) (hv : DatV w v [a]) (ho : onlyR 1 1 [a] = true) :
    Calls Tryz.prog 22 #[.int .i64 2, v] w (ResT (if a.k = 0 then (0, 0, 0) else (1, bitOf (a.i == 0), 0)) w) := by
  have hb0 := (Below.refl w.heap.size w).alloc (Nat.le_refl _) (.cells #[.int .i64 0, .int .i64 0, .string noText] 27)
  have bR := Blk.new w #[.int .i64 0, .int .i64 0, .string noText] 27
  have HO := Lib.hid (fun w' (hb : Below w.heap.size w w') => only_any 1 1 [a] v w' (hv.below hb))
  rw [ho] at HO
  obtain ⟨b, off, c, rfl, hc, hbl, x0, x1, x2⟩ := hv.one
  have hx : At3 w b off a := ⟨x0, x1, x2⟩
  have HX := Lib.hid hx
  have hc' : (1 : Int) ≤ c := by omega
  clear hv x0 x1 x2 ho hx
  obtain ⟨ak, ai, az⟩ := a
  by_cases hk : ak = 0
  · rw [if_pos hk]
    go_enter Tryz.func22, Tryz.ntmps22
    go_wp2_with (go_at_call 25; have hC := HO.out _ hb0; (with_reducible refine hC.mono ?_); clear hC; rintro e w3 ⟨rfl, hb3⟩; have bR3 := bR.below hb3; have h3 := hb0.trans (hb3.mono hb0.size); have hx3 := At3.below HX.out hbl h3; obtain ⟨x0, x1, x2⟩ := hx3; (try simp only at x0 x1 x2); have r0 := bR3.cell 0; have r1 := bR3.cell 1; have r2 := bR3.cell 2; have f0 := bR3.frozen 0; have f1 := bR3.frozen 1; have f2 := bR3.frozen 2; simp only [List.getElem?_toArray, List.getElem?_cons_zero, List.getElem?_cons_succ] at r0 r1 r2)
    refine bodyPost_ret ?_ rfl ⟨rfl, ?_⟩
    · simp [results, Tryz.results22, go_sem, r0, r1, r2]
    · exact (((h3.setCell (by simp; try omega) _).setCell (by simp; try omega) _).setCell (by simp; try omega) _)
  · have hk' : (ak == 0) = false := by simpa using hk
    rw [if_neg hk]
    clear hk
    go_enter Tryz.func22, Tryz.ntmps22
    go_wp2_with (first
      | (go_at_call 25; have hC := HO.out _ hb0; (with_reducible refine hC.mono ?_); clear hC; rintro e w3 ⟨rfl, hb3⟩; have bR3 := bR.below hb3; have h3 := hb0.trans (hb3.mono hb0.size); have hx3 := At3.below HX.out hbl h3; obtain ⟨x0, x1, x2⟩ := hx3; (try simp only at x0 x1 x2))
      | (go_at_call 11; (with_reducible refine (refBool_any _ _).mono ?_); rintro e w4 ⟨rfl, hb4⟩; have bR4 := bR3.below hb4; have h4 := h3.trans (hb4.mono h3.size); have r0 := bR4.cell 0; have r1 := bR4.cell 1; have r2 := bR4.cell 2; have f0 := bR4.frozen 0; have f1 := bR4.frozen 1; have f2 := bR4.frozen 2; simp only [List.getElem?_toArray, List.getElem?_cons_zero, List.getElem?_cons_succ] at r0 r1 r2))
    refine bodyPost_ret ?_ rfl ⟨rfl, ?_⟩
    · simp [results, Tryz.results22, go_sem, r0, r1, r2, bitOf]
    · exact (((h4.setCell (by simp; try omega) _).setCell (by simp; try omega) _).setCell (by simp; try omega) _)

theorem refBool_and (w : World) : Calls Tryz.prog 11 #[.bool false] w fun e w' => e = .returned (.agg #[.int .i64 1, .int .i64 0, .string noText]) ∧ Below w.heap.size w w' := refBool_any false w
theorem refBool_or (w : World) : Calls Tryz.prog 11 #[.bool true] w fun e w' => e = .returned (.agg #[.int .i64 1, .int .i64 1, .string noText]) ∧ Below w.heap.size w w' := refBool_any true w
theorem hasB_any (i : Int) (L : List Dat) (v : Value) (w : World) (hv : DatV w v L) :
    Calls Tryz.prog 43 #[v, .agg #[.int .i64 1, .int .i64 i, .string noText]] w fun e w' => e = .returned (.bool (hasR (boolD i) L)) ∧ Below w.heap.size w w' := has_any (boolD i) L v w hv
theorem hasN_any (L : List Dat) (v : Value) (w : World) (hv : DatV w v L) :
    Calls Tryz.prog 43 #[v, .agg #[.int .i64 0, .int .i64 0, .string noText]] w fun e w' => e = .returned (.bool (hasR nullD L)) ∧ Below w.heap.size w w' := has_any nullD L v w hv

set_option maxRecDepth 100000 in
set_option maxHeartbeats 8000000 in
theorem logic_and (L : List Dat) (v : Value) (w : World) (hv : DatV w v L) (ho : onlyR 1 1 L = true) :
    Calls Tryz.prog 22 #[.int .i64 13, v] w (ResT (if hasR (boolD 0) L = true then (1, bitOf ((0 : Int) == 1), 0) else if hasR nullD L = true then (0, 0, 0) else (1, bitOf ((0 : Int) == 0), 0)) w) := by
  have hb0 := (Below.refl w.heap.size w).alloc (Nat.le_refl _) (.cells #[.int .i64 0, .int .i64 0, .string noText] 27)
  have bR := Blk.new w #[.int .i64 0, .int .i64 0, .string noText] 27
  have HO := Lib.hid (fun w' (hb : Below w.heap.size w w') => only_any 1 1 L v w' (hv.below hb))
  rw [ho] at HO
  have HB := Lib.hid (fun w' (hb : Below w.heap.size w w') => hasB_any 0 L v w' (hv.below hb))
  have HN := Lib.hid (fun w' (hb : Below w.heap.size w w') => hasN_any L v w' (hv.below hb))
  obtain ⟨A, c, rfl, _, _⟩ := hv.len
  clear hv ho
  cases h1 : hasR (boolD 0) L
  · rw [h1] at HB
    cases h2 : hasR nullD L
    · rw [h2] at HN
      simp only [Bool.false_eq_true, if_false]
      clear h1 h2
      go_enter Tryz.func22, Tryz.ntmps22
      go_wp2_with (first
        | (go_at_call 25; have hC := HO.out _ hb0; (with_reducible refine hC.mono ?_); clear hC; rintro e w3 ⟨rfl, hb3⟩; have bR3 := bR.below hb3; have h3 := hb0.trans (hb3.mono hb0.size))
        | (go_at_call 11; (with_reducible refine (refBool_and _).mono ?_); rintro e w4 ⟨rfl, hb4⟩; have bR4 := bR3.below hb4; have h4 := h3.trans (hb4.mono h3.size))
        | (go_at_call 43; have hC := HB.out _ h4; (with_reducible refine hC.mono ?_); clear hC; rintro e w5 ⟨rfl, hb5⟩; have bR5 := bR4.below hb5; have h5 := h4.trans (hb5.mono h4.size))
        | (go_at_call 43; have hC := HN.out _ h5; (with_reducible refine hC.mono ?_); clear hC; rintro e w6 ⟨rfl, hb6⟩; have bR6 := bR5.below hb6; have h6 := h5.trans (hb6.mono h5.size))
        | (go_at_call 11; (with_reducible refine (refBool_any _ w6).mono ?_); rintro e w7 ⟨rfl, hb7⟩; have bR7 := bR6.below hb7; have h7 := h6.trans (hb7.mono h6.size); have r0 := bR7.cell 0; have r1 := bR7.cell 1; have r2 := bR7.cell 2; have f0 := bR7.frozen 0; have f1 := bR7.frozen 1; have f2 := bR7.frozen 2; simp only [List.getElem?_toArray, List.getElem?_cons_zero, List.getElem?_cons_succ] at r0 r1 r2))
      refine bodyPost_ret ?_ rfl ⟨rfl, ?_⟩
      · simp [results, Tryz.results22, go_sem, r0, r1, r2, bitOf]
      · exact (((h7.setCell (by simp; try omega) _).setCell (by simp; try omega) _).setCell (by simp; try omega) _)
    · rw [h2] at HN
      simp only [Bool.false_eq_true, if_false, if_true]
      clear h1 h2
      go_enter Tryz.func22, Tryz.ntmps22
      go_wp2_with (first
        | (go_at_call 25; have hC := HO.out _ hb0; (with_reducible refine hC.mono ?_); clear hC; rintro e w3 ⟨rfl, hb3⟩; have bR3 := bR.below hb3; have h3 := hb0.trans (hb3.mono hb0.size))
        | (go_at_call 11; (with_reducible refine (refBool_and _).mono ?_); rintro e w4 ⟨rfl, hb4⟩; have bR4 := bR3.below hb4; have h4 := h3.trans (hb4.mono h3.size))
        | (go_at_call 43; have hC := HB.out _ h4; (with_reducible refine hC.mono ?_); clear hC; rintro e w5 ⟨rfl, hb5⟩; have bR5 := bR4.below hb5; have h5 := h4.trans (hb5.mono h4.size))
        | (go_at_call 43; have hC := HN.out _ h5; (with_reducible refine hC.mono ?_); clear hC; rintro e w6 ⟨rfl, hb6⟩; have bR6 := bR5.below hb6; have h6 := h5.trans (hb6.mono h5.size); have r0 := bR6.cell 0; have r1 := bR6.cell 1; have r2 := bR6.cell 2; have f0 := bR6.frozen 0; have f1 := bR6.frozen 1; have f2 := bR6.frozen 2; simp only [List.getElem?_toArray, List.getElem?_cons_zero, List.getElem?_cons_succ] at r0 r1 r2))
      refine bodyPost_ret ?_ rfl ⟨rfl, ?_⟩
      · simp [results, Tryz.results22, go_sem, r0, r1, r2]
      · exact (((h6.setCell (by simp; try omega) _).setCell (by simp; try omega) _).setCell (by simp; try omega) _)
  · rw [h1] at HB
    simp only [if_true]
    clear h1
    go_enter Tryz.func22, Tryz.ntmps22
    go_wp2_with (first
      | (go_at_call 25; have hC := HO.out _ hb0; (with_reducible refine hC.mono ?_); clear hC; rintro e w3 ⟨rfl, hb3⟩; have bR3 := bR.below hb3; have h3 := hb0.trans (hb3.mono hb0.size))
      | (go_at_call 43; have hC := HB.out _ h4; (with_reducible refine hC.mono ?_); clear hC; rintro e w5 ⟨rfl, hb5⟩; have bR5 := bR4.below hb5; have h5 := h4.trans (hb5.mono h4.size))
      | (go_at_call 11; (with_reducible refine (refBool_any _ w5).mono ?_); rintro e w7 ⟨rfl, hb7⟩; have bR7 := bR5.below hb7; have h7 := h5.trans (hb7.mono h5.size); have r0 := bR7.cell 0; have r1 := bR7.cell 1; have r2 := bR7.cell 2; have f0 := bR7.frozen 0; have f1 := bR7.frozen 1; have f2 := bR7.frozen 2; simp only [List.getElem?_toArray, List.getElem?_cons_zero, List.getElem?_cons_succ] at r0 r1 r2)
      | (go_at_call 11; (with_reducible refine (refBool_and _).mono ?_); rintro e w4 ⟨rfl, hb4⟩; have bR4 := bR3.below hb4; have h4 := h3.trans (hb4.mono h3.size)))
    refine bodyPost_ret ?_ rfl ⟨rfl, ?_⟩
    · simp [results, Tryz.results22, go_sem, r0, r1, r2, bitOf]
    · exact (((h7.setCell (by simp; try omega) _).setCell (by simp; try omega) _).setCell (by simp; try omega) _)

set_option maxRecDepth 100000 in
set_option maxHeartbeats 8000000 in
theorem logic_or (L : List Dat) (v : Value) (w : World) (hv : DatV w v L) (ho : onlyR 1 1 L = true) :
    Calls Tryz.prog 22 #[.int .i64 14, v] w (ResT (if hasR (boolD 1) L = true then (1, bitOf ((1 : Int) == 1), 0) else if hasR nullD L = true then (0, 0, 0) else (1, bitOf ((1 : Int) == 0), 0)) w) := by
  have hb0 := (Below.refl w.heap.size w).alloc (Nat.le_refl _) (.cells #[.int .i64 0, .int .i64 0, .string noText] 27)
  have bR := Blk.new w #[.int .i64 0, .int .i64 0, .string noText] 27
  have HO := Lib.hid (fun w' (hb : Below w.heap.size w w') => only_any 1 1 L v w' (hv.below hb))
  rw [ho] at HO
  have HB := Lib.hid (fun w' (hb : Below w.heap.size w w') => hasB_any 1 L v w' (hv.below hb))
  have HN := Lib.hid (fun w' (hb : Below w.heap.size w w') => hasN_any L v w' (hv.below hb))
  obtain ⟨A, c, rfl, _, _⟩ := hv.len
  clear hv ho
  cases h1 : hasR (boolD 1) L
  · rw [h1] at HB
    cases h2 : hasR nullD L
    · rw [h2] at HN
      simp only [Bool.false_eq_true, if_false]
      clear h1 h2
      go_enter Tryz.func22, Tryz.ntmps22
      go_wp2_with (first
        | (go_at_call 25; have hC := HO.out _ hb0; (with_reducible refine hC.mono ?_); clear hC; rintro e w3 ⟨rfl, hb3⟩; have bR3 := bR.below hb3; have h3 := hb0.trans (hb3.mono hb0.size))
        | (go_at_call 11; (with_reducible refine (refBool_or _).mono ?_); rintro e w4 ⟨rfl, hb4⟩; have bR4 := bR3.below hb4; have h4 := h3.trans (hb4.mono h3.size))
        | (go_at_call 43; have hC := HB.out _ h4; (with_reducible refine hC.mono ?_); clear hC; rintro e w5 ⟨rfl, hb5⟩; have bR5 := bR4.below hb5; have h5 := h4.trans (hb5.mono h4.size))
        | (go_at_call 43; have hC := HN.out _ h5; (with_reducible refine hC.mono ?_); clear hC; rintro e w6 ⟨rfl, hb6⟩; have bR6 := bR5.below hb6; have h6 := h5.trans (hb6.mono h5.size))
        | (go_at_call 11; (with_reducible refine (refBool_any _ w6).mono ?_); rintro e w7 ⟨rfl, hb7⟩; have bR7 := bR6.below hb7; have h7 := h6.trans (hb7.mono h6.size); have r0 := bR7.cell 0; have r1 := bR7.cell 1; have r2 := bR7.cell 2; have f0 := bR7.frozen 0; have f1 := bR7.frozen 1; have f2 := bR7.frozen 2; simp only [List.getElem?_toArray, List.getElem?_cons_zero, List.getElem?_cons_succ] at r0 r1 r2))
      refine bodyPost_ret ?_ rfl ⟨rfl, ?_⟩
      · simp [results, Tryz.results22, go_sem, r0, r1, r2, bitOf]
      · exact (((h7.setCell (by simp; try omega) _).setCell (by simp; try omega) _).setCell (by simp; try omega) _)
    · rw [h2] at HN
      simp only [Bool.false_eq_true, if_false, if_true]
      clear h1 h2
      go_enter Tryz.func22, Tryz.ntmps22
      go_wp2_with (first
        | (go_at_call 25; have hC := HO.out _ hb0; (with_reducible refine hC.mono ?_); clear hC; rintro e w3 ⟨rfl, hb3⟩; have bR3 := bR.below hb3; have h3 := hb0.trans (hb3.mono hb0.size))
        | (go_at_call 11; (with_reducible refine (refBool_or _).mono ?_); rintro e w4 ⟨rfl, hb4⟩; have bR4 := bR3.below hb4; have h4 := h3.trans (hb4.mono h3.size))
        | (go_at_call 43; have hC := HB.out _ h4; (with_reducible refine hC.mono ?_); clear hC; rintro e w5 ⟨rfl, hb5⟩; have bR5 := bR4.below hb5; have h5 := h4.trans (hb5.mono h4.size))
        | (go_at_call 43; have hC := HN.out _ h5; (with_reducible refine hC.mono ?_); clear hC; rintro e w6 ⟨rfl, hb6⟩; have bR6 := bR5.below hb6; have h6 := h5.trans (hb6.mono h5.size); have r0 := bR6.cell 0; have r1 := bR6.cell 1; have r2 := bR6.cell 2; have f0 := bR6.frozen 0; have f1 := bR6.frozen 1; have f2 := bR6.frozen 2; simp only [List.getElem?_toArray, List.getElem?_cons_zero, List.getElem?_cons_succ] at r0 r1 r2))
      refine bodyPost_ret ?_ rfl ⟨rfl, ?_⟩
      · simp [results, Tryz.results22, go_sem, r0, r1, r2]
      · exact (((h6.setCell (by simp; try omega) _).setCell (by simp; try omega) _).setCell (by simp; try omega) _)
  · rw [h1] at HB
    simp only [if_true]
    clear h1
    go_enter Tryz.func22, Tryz.ntmps22
    go_wp2_with (first
      | (go_at_call 25; have hC := HO.out _ hb0; (with_reducible refine hC.mono ?_); clear hC; rintro e w3 ⟨rfl, hb3⟩; have bR3 := bR.below hb3; have h3 := hb0.trans (hb3.mono hb0.size))
      | (go_at_call 43; have hC := HB.out _ h4; (with_reducible refine hC.mono ?_); clear hC; rintro e w5 ⟨rfl, hb5⟩; have bR5 := bR4.below hb5; have h5 := h4.trans (hb5.mono h4.size))
      | (go_at_call 11; (with_reducible refine (refBool_any _ w5).mono ?_); rintro e w7 ⟨rfl, hb7⟩; have bR7 := bR5.below hb7; have h7 := h5.trans (hb7.mono h5.size); have r0 := bR7.cell 0; have r1 := bR7.cell 1; have r2 := bR7.cell 2; have f0 := bR7.frozen 0; have f1 := bR7.frozen 1; have f2 := bR7.frozen 2; simp only [List.getElem?_toArray, List.getElem?_cons_zero, List.getElem?_cons_succ] at r0 r1 r2)
      | (go_at_call 11; (with_reducible refine (refBool_or _).mono ?_); rintro e w4 ⟨rfl, hb4⟩; have bR4 := bR3.below hb4; have h4 := h3.trans (hb4.mono h3.size)))
    refine bodyPost_ret ?_ rfl ⟨rfl, ?_⟩
    · simp [results, Tryz.results22, go_sem, r0, r1, r2, bitOf]
    · exact (((h7.setCell (by simp; try omega) _).setCell (by simp; try omega) _).setCell (by simp; try omega) _)

end Go.Proofs.YtippffjhkinfoaaGreatDoor
