/-
  The reference's length and comparison: what each makes of values that may be.
-/
import Derived.Test.YtippffjhkinfoaaGreatDoorRefP
namespace Go.Proofs.YtippffjhkinfoaaGreatDoor
open Go.RowKit

set_option maxRecDepth 100000 in
set_option maxHeartbeats 8000000 in
theorem len_small (k : Int) (w : World) (i : Int) (hk : k < 4) (h0 : k ≠ 0) :
    Calls Tryz.prog 23 #[.agg #[.int .i64 k, .int .i64 i, .string noText]] w (ResPost 0 0 5 w) := by
  have e0 : (k == 0) = false := by simpa using h0
  go_enter Tryz.func23, Tryz.ntmps23
  go_wp2
  refine bodyPost_ret (v := .tuple #[.agg #[.int .i64 0, .int .i64 0, .string noText], .int .i64 5]) ?_ rfl ⟨rfl, ?_⟩
  · simp [results, Tryz.results23, go_sem]
  · exact ((Below.refl _ _).alloc (Nat.le_refl _) _).alloc (by simp) _

set_option maxRecDepth 100000 in
set_option maxHeartbeats 8000000 in
theorem len_null (w : World) :
    Calls Tryz.prog 23 #[.agg #[.int .i64 0, .int .i64 0, .string noText]] w (ResPost 0 0 0 w) := by
  go_enter Tryz.func23, Tryz.ntmps23
  go_wp2
  refine bodyPost_ret (v := .tuple #[.agg #[.int .i64 0, .int .i64 0, .string noText], .int .i64 0]) ?_ rfl ⟨rfl, ?_⟩
  · simp [results, Tryz.results23, go_sem]
  · exact ((Below.refl _ _).alloc (Nat.le_refl _) _).alloc (by simp) _

set_option maxRecDepth 100000 in
set_option maxHeartbeats 8000000 in
theorem len_bytes (i : Int) (s : ByteArray) (w : World) :
    Calls Tryz.prog 23 #[.agg #[.int .i64 5, .int .i64 i, .string s]] w (ResPost 2 s.size 0 w) := by
  go_enter Tryz.func23, Tryz.ntmps23
  go_wp2
  refine bodyPost_ret (v := .tuple #[.agg #[.int .i64 2, .int .i64 s.size, .string noText], .int .i64 0]) ?_ rfl ⟨rfl, ?_⟩
  · simp [results, Tryz.results23, go_sem]
  · exact ((Below.refl _ _).alloc (Nat.le_refl _) _).alloc (by simp) _

set_option maxRecDepth 100000 in
set_option maxHeartbeats 8000000 in
theorem len_text (i : Int) (s : ByteArray) (w : World) (hs : s.size ≤ 1000) (hv : Lib.validD s.data.toList = true) :
    Calls Tryz.prog 23 #[.agg #[.int .i64 4, .int .i64 i, .string s]] w (ResPost 2 (runeC s 0) 0 w) := by
  have HC := Lib.hid (fun w => runes_cnt s w hs)
  have HV := Lib.hid hv
  have bR := (Blk.atB (w := w.alloc (.cells #[.int .i64 4, .int .i64 i, .string s] 27)) (b := w.heap.size + 1) (cs := #[.int .i64 0, .int .i64 0, .string noText]) (t := 27) (by simp))
  have hb0 := ((Below.refl w.heap.size w).alloc (Nat.le_refl _) (.cells #[.int .i64 4, .int .i64 i, .string s] 27)).alloc (by simp) (.cells #[.int .i64 0, .int .i64 0, .string noText] 27)
  clear hv
  go_enter Tryz.func23, Tryz.ntmps23
  go_wp2_with (go_at_call 33; (with_reducible refine (HC.out _).mono ?_); rintro e w3 ⟨n, rfl, hn, hb3⟩; have hn' := hn HV.out; subst hn'; have bR3 := bR.below hb3; have h3 := hb0.trans (hb3.mono hb0.size); clear hn; have r0 := bR3.cell 0; have r1 := bR3.cell 1; have r2 := bR3.cell 2; have f0 := bR3.frozen 0; have f1 := bR3.frozen 1; have f2 := bR3.frozen 2; simp only [List.getElem?_toArray, List.getElem?_cons_zero, List.getElem?_cons_succ] at r0 r1 r2)
  refine bodyPost_ret ?_ rfl ⟨rfl, ?_⟩
  · simp [results, Tryz.results23, go_sem, r0, r1, r2]
  · exact (((h3.setCell (by simp; try omega) _).setCell (by simp; try omega) _).setCell (by simp; try omega) _)

theorem refLen_any (a : Dat) (ha : rightD a = true) (w : World) : Calls Tryz.prog 23 #[datVal a] w (ResT (lenR a) w) := by
  have hk := rightD_kind a ha
  have hz := rightD_size a ha
  unfold lenR
  by_cases h0 : a.k = 0
  · rw [if_pos h0, right_null ha h0]
    exact len_null w
  · rw [if_neg h0]
    by_cases h4 : a.k < 4
    · rw [if_pos h4]
      have hs : a.s = noText := by
        by_cases h1 : a.k = 1
        · rcases right_bool ha h1 with e | e <;> rw [e] <;> rfl
        · exact right_num ha (by omega)
      have := len_small a.k w a.i h4 h0
      unfold datVal
      rw [hs]
      exact this
    · rw [if_neg h4]
      obtain ⟨k, i, s⟩ := a
      simp only at *
      by_cases h5 : k = 4
      · subst h5
        rw [if_pos rfl]
        refine len_text i s w hz ?_
        unfold rightD at ha
        simp only [show ¬ ((4 : Int) = 0) by omega, show ¬ ((4 : Int) = 1) by omega, show ¬ ((4 : Int) = 2 ∨ (4 : Int) = 3) by omega, if_true, if_false, Bool.and_eq_true] at ha
        exact ha.2.2
      · obtain rfl : k = 5 := by omega
        rw [if_neg h5]
        exact len_bytes i s w

theorem numZ_inz (k : Int) {i : Int} (h : -9223372036854775808 ≤ i ∧ i ≤ 9223372036854775807) : InZ (numZ k i) := by
  unfold InZ numZ
  split <;> omega
theorem numZ_pw (k : Int) {i : Int} (h : -9223372036854775808 ≤ i ∧ i ≤ 9223372036854775807) : -pw 4 < numZ k i ∧ numZ k i < pw 4 := inz_pw (numZ_inz k h)

set_option maxRecDepth 100000 in
set_option maxHeartbeats 8000000 in
theorem cmp_null1 (op : Int) (a b : Dat) (v : Value) (w : World) (hv : DatV w v [a, b]) (h1 : a.k = 0) :
    Calls Tryz.prog 24 #[.int .i64 op, v] w (ResPost 0 0 0 w) := by
  have HO := Lib.hid (fun w' (hb : Below w.heap.size w w') => only_any 2 3 [a, b] v w' (hv.below hb))
  obtain ⟨p, off, c, rfl, hc, hbl, ⟨x0, x1, x2⟩, x3, x4, x5⟩ := hv.two
  have hb0 := (Below.refl w.heap.size w).alloc (Nat.le_refl _) (.cells #[.int .i64 0, .int .i64 0, .string noText] 27)
  have hx : At3 w p off a := ⟨x0, x1, x2⟩
  have hy : At3 w p (off + 3) b := ⟨x3, x4, x5⟩
  clear hv x0 x1 x2 x3 x4 x5
  obtain ⟨x0, x1, x2⟩ := hx.below hbl hb0
  have hq := fun (o : Obj) => hy.below hbl (hb0.alloc hb0.size o)
  have x3 := fun o => (hq o).1
  have x4 := fun o => (hq o).2.1
  have x5 := fun o => (hq o).2.2
  clear hq hx hy
  obtain ⟨W, hW⟩ : ∃ W, ((w.alloc (.cells #[.int .i64 0, .int .i64 0, .string noText] 27)).alloc (.cells #[.int .i64 a.k, .int .i64 a.i, .string a.s] 27)).alloc (.cells #[.int .i64 b.k, .int .i64 b.i, .string b.s] 27) = W := ⟨_, rfl⟩
  have hb3 : Below w.heap.size w W := by
    rw [← hW]
    exact (hb0.alloc (by simp) _).alloc (by simp; omega) _
  have bR : Blk W w.heap.size #[.int .i64 0, .int .i64 0, .string noText] 27 := by
    rw [← hW]
    exact ((Blk.new w _ _).alloc _).alloc _
  have bA : Blk W (w.heap.size + 1) #[.int .i64 a.k, .int .i64 a.i, .string a.s] 27 := by
    rw [← hW]
    exact (Blk.atB (by simp)).alloc _
  have bB : Blk W (w.heap.size + 1 + 1) #[.int .i64 b.k, .int .i64 b.i, .string b.s] 27 := by
    rw [← hW]
    exact Blk.atB (by simp)
  have HW := Lib.hid hW
  clear hW
  have H1 := Lib.hid h1
  clear h1
  go_enter Tryz.func24, Tryz.ntmps24
  go_upto_region 3 with fail
  rw [HW.out]
  clear x0 x1 x2 x3 x4 x5
  have y0 := bA.cell 0
  have y1 := bA.cell 1
  have y2 := bA.cell 2
  have y3 := bB.cell 0
  have y4 := bB.cell 1
  have y5 := bB.cell 2
  simp only [List.getElem?_toArray, List.getElem?_cons_zero, List.getElem?_cons_succ] at y0 y1 y2 y3 y4 y5
  have h1 := H1.out
  have r0 := bR.cell 0
  have r1 := bR.cell 1
  have r2 := bR.cell 2
  have f0 := bR.frozen 0
  have f1 := bR.frozen 1
  have f2 := bR.frozen 2
  simp only [List.getElem?_toArray, List.getElem?_cons_zero, List.getElem?_cons_succ] at r0 r1 r2
  go_wp2_with fail
  refine bodyPost_ret ?_ rfl ⟨rfl, ?_⟩
  · simp [results, Tryz.results24, go_sem, r0, r1, r2]
  · exact (((hb3.setCell (by simp; try omega) _).setCell (by simp; try omega) _).setCell (by simp; try omega) _)
set_option maxRecDepth 100000 in
set_option maxHeartbeats 8000000 in
theorem cmp_null2 (op : Int) (a b : Dat) (v : Value) (w : World) (hv : DatV w v [a, b]) (h1 : a.k ≠ 0) (h2 : b.k = 0) :
    Calls Tryz.prog 24 #[.int .i64 op, v] w (ResPost 0 0 0 w) := by
  have HO := Lib.hid (fun w' (hb : Below w.heap.size w w') => only_any 2 3 [a, b] v w' (hv.below hb))
  obtain ⟨p, off, c, rfl, hc, hbl, ⟨x0, x1, x2⟩, x3, x4, x5⟩ := hv.two
  have hb0 := (Below.refl w.heap.size w).alloc (Nat.le_refl _) (.cells #[.int .i64 0, .int .i64 0, .string noText] 27)
  have hx : At3 w p off a := ⟨x0, x1, x2⟩
  have hy : At3 w p (off + 3) b := ⟨x3, x4, x5⟩
  clear hv x0 x1 x2 x3 x4 x5
  obtain ⟨x0, x1, x2⟩ := hx.below hbl hb0
  have hq := fun (o : Obj) => hy.below hbl (hb0.alloc hb0.size o)
  have x3 := fun o => (hq o).1
  have x4 := fun o => (hq o).2.1
  have x5 := fun o => (hq o).2.2
  clear hq hx hy
  obtain ⟨W, hW⟩ : ∃ W, ((w.alloc (.cells #[.int .i64 0, .int .i64 0, .string noText] 27)).alloc (.cells #[.int .i64 a.k, .int .i64 a.i, .string a.s] 27)).alloc (.cells #[.int .i64 b.k, .int .i64 b.i, .string b.s] 27) = W := ⟨_, rfl⟩
  have hb3 : Below w.heap.size w W := by
    rw [← hW]
    exact (hb0.alloc (by simp) _).alloc (by simp; omega) _
  have bR : Blk W w.heap.size #[.int .i64 0, .int .i64 0, .string noText] 27 := by
    rw [← hW]
    exact ((Blk.new w _ _).alloc _).alloc _
  have bA : Blk W (w.heap.size + 1) #[.int .i64 a.k, .int .i64 a.i, .string a.s] 27 := by
    rw [← hW]
    exact (Blk.atB (by simp)).alloc _
  have bB : Blk W (w.heap.size + 1 + 1) #[.int .i64 b.k, .int .i64 b.i, .string b.s] 27 := by
    rw [← hW]
    exact Blk.atB (by simp)
  have HW := Lib.hid hW
  clear hW
  have H1 := Lib.hid h1
  have H2 := Lib.hid h2
  clear h1 h2
  go_enter Tryz.func24, Tryz.ntmps24
  go_upto_region 3 with fail
  rw [HW.out]
  clear x0 x1 x2 x3 x4 x5
  have y0 := bA.cell 0
  have y1 := bA.cell 1
  have y2 := bA.cell 2
  have y3 := bB.cell 0
  have y4 := bB.cell 1
  have y5 := bB.cell 2
  simp only [List.getElem?_toArray, List.getElem?_cons_zero, List.getElem?_cons_succ] at y0 y1 y2 y3 y4 y5
  have h1 : (a.k == 0) = false := by simpa using H1.out
  have h2 := H2.out
  have r0 := bR.cell 0
  have r1 := bR.cell 1
  have r2 := bR.cell 2
  have f0 := bR.frozen 0
  have f1 := bR.frozen 1
  have f2 := bR.frozen 2
  simp only [List.getElem?_toArray, List.getElem?_cons_zero, List.getElem?_cons_succ] at r0 r1 r2
  go_wp2_with fail
  refine bodyPost_ret ?_ rfl ⟨rfl, ?_⟩
  · simp [results, Tryz.results24, go_sem, r0, r1, r2]
  · exact (((hb3.setCell (by simp; try omega) _).setCell (by simp; try omega) _).setCell (by simp; try omega) _)
set_option maxRecDepth 100000 in
set_option maxHeartbeats 8000000 in
theorem cmp_type (op : Int) (a b : Dat) (v : Value) (w : World) (hv : DatV w v [a, b]) (h1 : a.k ≠ 0) (h2 : b.k ≠ 0) (ho : onlyR 2 3 [a, b] = false) (hk : a.k ≠ b.k) :
    Calls Tryz.prog 24 #[.int .i64 op, v] w (ResPost 0 0 5 w) := by
  have HO := Lib.hid (fun w' (hb : Below w.heap.size w w') => only_any 2 3 [a, b] v w' (hv.below hb))
  obtain ⟨p, off, c, rfl, hc, hbl, ⟨x0, x1, x2⟩, x3, x4, x5⟩ := hv.two
  have hb0 := (Below.refl w.heap.size w).alloc (Nat.le_refl _) (.cells #[.int .i64 0, .int .i64 0, .string noText] 27)
  have hx : At3 w p off a := ⟨x0, x1, x2⟩
  have hy : At3 w p (off + 3) b := ⟨x3, x4, x5⟩
  clear hv x0 x1 x2 x3 x4 x5
  obtain ⟨x0, x1, x2⟩ := hx.below hbl hb0
  have hq := fun (o : Obj) => hy.below hbl (hb0.alloc hb0.size o)
  have x3 := fun o => (hq o).1
  have x4 := fun o => (hq o).2.1
  have x5 := fun o => (hq o).2.2
  clear hq hx hy
  obtain ⟨W, hW⟩ : ∃ W, ((w.alloc (.cells #[.int .i64 0, .int .i64 0, .string noText] 27)).alloc (.cells #[.int .i64 a.k, .int .i64 a.i, .string a.s] 27)).alloc (.cells #[.int .i64 b.k, .int .i64 b.i, .string b.s] 27) = W := ⟨_, rfl⟩
  have hb3 : Below w.heap.size w W := by
    rw [← hW]
    exact (hb0.alloc (by simp) _).alloc (by simp; omega) _
  have bR : Blk W w.heap.size #[.int .i64 0, .int .i64 0, .string noText] 27 := by
    rw [← hW]
    exact ((Blk.new w _ _).alloc _).alloc _
  have bA : Blk W (w.heap.size + 1) #[.int .i64 a.k, .int .i64 a.i, .string a.s] 27 := by
    rw [← hW]
    exact (Blk.atB (by simp)).alloc _
  have bB : Blk W (w.heap.size + 1 + 1) #[.int .i64 b.k, .int .i64 b.i, .string b.s] 27 := by
    rw [← hW]
    exact Blk.atB (by simp)
  have HW := Lib.hid hW
  clear hW
  have H1 := Lib.hid h1
  have H2 := Lib.hid h2
  clear h1 h2
  rw [ho] at HO
  have HK := Lib.hid hk
  clear ho hk
  go_enter Tryz.func24, Tryz.ntmps24
  go_upto_region 3 with fail
  rw [HW.out]
  clear x0 x1 x2 x3 x4 x5
  have y0 := bA.cell 0
  have y1 := bA.cell 1
  have y2 := bA.cell 2
  have y3 := bB.cell 0
  have y4 := bB.cell 1
  have y5 := bB.cell 2
  simp only [List.getElem?_toArray, List.getElem?_cons_zero, List.getElem?_cons_succ] at y0 y1 y2 y3 y4 y5
  have h1 : (a.k == 0) = false := by simpa using H1.out
  have h2 : (b.k == 0) = false := by simpa using H2.out
  have hk : (a.k == b.k) = false := by simpa using HK.out
  go_wp2_with (go_at_call 25; have hC := HO.out _ hb3; (with_reducible refine hC.mono ?_); clear hC; rintro e w4 ⟨rfl, hb4⟩; have h4 : Below w.heap.size w w4 := hb3.trans (hb4.mono hb3.size); have bR4 := bR.below hb4; have bA4 := bA.below hb4; have bB4 := bB.below hb4; have y40 := bA4.cell 0; have y41 := bA4.cell 1; have y42 := bA4.cell 2; have y43 := bB4.cell 0; have y44 := bB4.cell 1; have y45 := bB4.cell 2; simp only [List.getElem?_toArray, List.getElem?_cons_zero, List.getElem?_cons_succ] at y40 y41 y42 y43 y44 y45; have r0 := bR4.cell 0; have r1 := bR4.cell 1; have r2 := bR4.cell 2; have f0 := bR4.frozen 0; have f1 := bR4.frozen 1; have f2 := bR4.frozen 2; simp only [List.getElem?_toArray, List.getElem?_cons_zero, List.getElem?_cons_succ] at r0 r1 r2)
  refine bodyPost_ret ?_ rfl ⟨rfl, ?_⟩
  · simp [results, Tryz.results24, go_sem, r0, r1, r2]
  · exact (((h4.setCell (by simp; try omega) _).setCell (by simp; try omega) _).setCell (by simp; try omega) _)
set_option maxRecDepth 100000 in
set_option maxHeartbeats 8000000 in
theorem cmp_same_7 (a b : Dat) (v : Value) (w : World) (hv : DatV w v [a, b]) (h1 : a.k ≠ 0) (h2 : b.k ≠ 0) (ho : onlyR 2 3 [a, b] = false) (hk : a.k = b.k) (n : Int) (hn : cmpD a b = n) :
    Calls Tryz.prog 24 #[.int .i64 7, v] w (ResT (1, bitOf (holdsB 7 n), 0) w) := by
  have HO := Lib.hid (fun w' (hb : Below w.heap.size w w') => only_any 2 3 [a, b] v w' (hv.below hb))
  obtain ⟨p, off, c, rfl, hc, hbl, ⟨x0, x1, x2⟩, x3, x4, x5⟩ := hv.two
  have hb0 := (Below.refl w.heap.size w).alloc (Nat.le_refl _) (.cells #[.int .i64 0, .int .i64 0, .string noText] 27)
  have hx : At3 w p off a := ⟨x0, x1, x2⟩
  have hy : At3 w p (off + 3) b := ⟨x3, x4, x5⟩
  clear hv x0 x1 x2 x3 x4 x5
  obtain ⟨x0, x1, x2⟩ := hx.below hbl hb0
  have hq := fun (o : Obj) => hy.below hbl (hb0.alloc hb0.size o)
  have x3 := fun o => (hq o).1
  have x4 := fun o => (hq o).2.1
  have x5 := fun o => (hq o).2.2
  clear hq hx hy
  obtain ⟨W, hW⟩ : ∃ W, ((w.alloc (.cells #[.int .i64 0, .int .i64 0, .string noText] 27)).alloc (.cells #[.int .i64 a.k, .int .i64 a.i, .string a.s] 27)).alloc (.cells #[.int .i64 b.k, .int .i64 b.i, .string b.s] 27) = W := ⟨_, rfl⟩
  have hb3 : Below w.heap.size w W := by
    rw [← hW]
    exact (hb0.alloc (by simp) _).alloc (by simp; omega) _
  have bR : Blk W w.heap.size #[.int .i64 0, .int .i64 0, .string noText] 27 := by
    rw [← hW]
    exact ((Blk.new w _ _).alloc _).alloc _
  have bA : Blk W (w.heap.size + 1) #[.int .i64 a.k, .int .i64 a.i, .string a.s] 27 := by
    rw [← hW]
    exact (Blk.atB (by simp)).alloc _
  have bB : Blk W (w.heap.size + 1 + 1) #[.int .i64 b.k, .int .i64 b.i, .string b.s] 27 := by
    rw [← hW]
    exact Blk.atB (by simp)
  have HW := Lib.hid hW
  clear hW
  have H1 := Lib.hid h1
  have H2 := Lib.hid h2
  clear h1 h2
  rw [ho] at HO
  have HK := Lib.hid hk
  have HN := Lib.hid hn
  clear ho hk hn
  go_enter Tryz.func24, Tryz.ntmps24
  go_upto_region 3 with fail
  rw [HW.out]
  clear x0 x1 x2 x3 x4 x5
  have y0 := bA.cell 0
  have y1 := bA.cell 1
  have y2 := bA.cell 2
  have y3 := bB.cell 0
  have y4 := bB.cell 1
  have y5 := bB.cell 2
  simp only [List.getElem?_toArray, List.getElem?_cons_zero, List.getElem?_cons_succ] at y0 y1 y2 y3 y4 y5
  have h1 : (a.k == 0) = false := by simpa using H1.out
  have h2 : (b.k == 0) = false := by simpa using H2.out
  have hk : (a.k != b.k) = false := by simpa using HK.out
  go_wp2_with (first
    | (go_at_call 25; have hC := HO.out _ hb3; (with_reducible refine hC.mono ?_); clear hC; rintro e w4 ⟨rfl, hb4⟩; have h4 : Below w.heap.size w w4 := hb3.trans (hb4.mono hb3.size); have bR4 := bR.below hb4; have bA4 := bA.below hb4; have bB4 := bB.below hb4; have y40 := bA4.cell 0; have y41 := bA4.cell 1; have y42 := bA4.cell 2; have y43 := bB4.cell 0; have y44 := bB4.cell 1; have y45 := bB4.cell 2; simp only [List.getElem?_toArray, List.getElem?_cons_zero, List.getElem?_cons_succ] at y40 y41 y42 y43 y44 y45)
    | (go_at_call 44; have hC := refCmp_any a.k a.i a.s b.k b.i b.s w4; (with_reducible refine hC.mono ?_); clear hC; rintro e w5 ⟨rfl, hb5⟩; have h5 : Below w.heap.size w w5 := h4.trans (hb5.mono h4.size); have bR5 := bR4.below hb5; have bA5 := bA4.below hb5; have bB5 := bB4.below hb5; have y50 := bA5.cell 0; have y51 := bA5.cell 1; have y52 := bA5.cell 2; have y53 := bB5.cell 0; have y54 := bB5.cell 1; have y55 := bB5.cell 2; simp only [List.getElem?_toArray, List.getElem?_cons_zero, List.getElem?_cons_succ] at y50 y51 y52 y53 y54 y55; rw [show cmpD ⟨a.k, a.i, a.s⟩ ⟨b.k, b.i, b.s⟩ = n from HN.out])
    | (go_at_call 11; (with_reducible refine (refBool_any _ _).mono ?_); rintro e w6 ⟨rfl, hb6⟩; have h6 : Below w.heap.size w w6 := h5.trans (hb6.mono h5.size); have bR6 := bR5.below hb6; have r0 := bR6.cell 0; have r1 := bR6.cell 1; have r2 := bR6.cell 2; have f0 := bR6.frozen 0; have f1 := bR6.frozen 1; have f2 := bR6.frozen 2; simp only [List.getElem?_toArray, List.getElem?_cons_zero, List.getElem?_cons_succ] at r0 r1 r2))
  refine bodyPost_ret ?_ rfl ⟨rfl, ?_⟩
  · simp [results, Tryz.results24, go_sem, r0, r1, r2, holdsB]
  · exact (((h6.setCell (by simp; try omega) _).setCell (by simp; try omega) _).setCell (by simp; try omega) _)
set_option maxRecDepth 100000 in
set_option maxHeartbeats 8000000 in
theorem cmp_same_8 (a b : Dat) (v : Value) (w : World) (hv : DatV w v [a, b]) (h1 : a.k ≠ 0) (h2 : b.k ≠ 0) (ho : onlyR 2 3 [a, b] = false) (hk : a.k = b.k) (n : Int) (hn : cmpD a b = n) :
    Calls Tryz.prog 24 #[.int .i64 8, v] w (ResT (1, bitOf (holdsB 8 n), 0) w) := by
  have HO := Lib.hid (fun w' (hb : Below w.heap.size w w') => only_any 2 3 [a, b] v w' (hv.below hb))
  obtain ⟨p, off, c, rfl, hc, hbl, ⟨x0, x1, x2⟩, x3, x4, x5⟩ := hv.two
  have hb0 := (Below.refl w.heap.size w).alloc (Nat.le_refl _) (.cells #[.int .i64 0, .int .i64 0, .string noText] 27)
  have hx : At3 w p off a := ⟨x0, x1, x2⟩
  have hy : At3 w p (off + 3) b := ⟨x3, x4, x5⟩
  clear hv x0 x1 x2 x3 x4 x5
  obtain ⟨x0, x1, x2⟩ := hx.below hbl hb0
  have hq := fun (o : Obj) => hy.below hbl (hb0.alloc hb0.size o)
  have x3 := fun o => (hq o).1
  have x4 := fun o => (hq o).2.1
  have x5 := fun o => (hq o).2.2
  clear hq hx hy
  obtain ⟨W, hW⟩ : ∃ W, ((w.alloc (.cells #[.int .i64 0, .int .i64 0, .string noText] 27)).alloc (.cells #[.int .i64 a.k, .int .i64 a.i, .string a.s] 27)).alloc (.cells #[.int .i64 b.k, .int .i64 b.i, .string b.s] 27) = W := ⟨_, rfl⟩
  have hb3 : Below w.heap.size w W := by
    rw [← hW]
    exact (hb0.alloc (by simp) _).alloc (by simp; omega) _
  have bR : Blk W w.heap.size #[.int .i64 0, .int .i64 0, .string noText] 27 := by
    rw [← hW]
    exact ((Blk.new w _ _).alloc _).alloc _
  have bA : Blk W (w.heap.size + 1) #[.int .i64 a.k, .int .i64 a.i, .string a.s] 27 := by
    rw [← hW]
    exact (Blk.atB (by simp)).alloc _
  have bB : Blk W (w.heap.size + 1 + 1) #[.int .i64 b.k, .int .i64 b.i, .string b.s] 27 := by
    rw [← hW]
    exact Blk.atB (by simp)
  have HW := Lib.hid hW
  clear hW
  have H1 := Lib.hid h1
  have H2 := Lib.hid h2
  clear h1 h2
  rw [ho] at HO
  have HK := Lib.hid hk
  have HN := Lib.hid hn
  clear ho hk hn
  go_enter Tryz.func24, Tryz.ntmps24
  go_upto_region 3 with fail
  rw [HW.out]
  clear x0 x1 x2 x3 x4 x5
  have y0 := bA.cell 0
  have y1 := bA.cell 1
  have y2 := bA.cell 2
  have y3 := bB.cell 0
  have y4 := bB.cell 1
  have y5 := bB.cell 2
  simp only [List.getElem?_toArray, List.getElem?_cons_zero, List.getElem?_cons_succ] at y0 y1 y2 y3 y4 y5
  have h1 : (a.k == 0) = false := by simpa using H1.out
  have h2 : (b.k == 0) = false := by simpa using H2.out
  have hk : (a.k != b.k) = false := by simpa using HK.out
  go_wp2_with (first
    | (go_at_call 25; have hC := HO.out _ hb3; (with_reducible refine hC.mono ?_); clear hC; rintro e w4 ⟨rfl, hb4⟩; have h4 : Below w.heap.size w w4 := hb3.trans (hb4.mono hb3.size); have bR4 := bR.below hb4; have bA4 := bA.below hb4; have bB4 := bB.below hb4; have y40 := bA4.cell 0; have y41 := bA4.cell 1; have y42 := bA4.cell 2; have y43 := bB4.cell 0; have y44 := bB4.cell 1; have y45 := bB4.cell 2; simp only [List.getElem?_toArray, List.getElem?_cons_zero, List.getElem?_cons_succ] at y40 y41 y42 y43 y44 y45)
    | (go_at_call 44; have hC := refCmp_any a.k a.i a.s b.k b.i b.s w4; (with_reducible refine hC.mono ?_); clear hC; rintro e w5 ⟨rfl, hb5⟩; have h5 : Below w.heap.size w w5 := h4.trans (hb5.mono h4.size); have bR5 := bR4.below hb5; have bA5 := bA4.below hb5; have bB5 := bB4.below hb5; have y50 := bA5.cell 0; have y51 := bA5.cell 1; have y52 := bA5.cell 2; have y53 := bB5.cell 0; have y54 := bB5.cell 1; have y55 := bB5.cell 2; simp only [List.getElem?_toArray, List.getElem?_cons_zero, List.getElem?_cons_succ] at y50 y51 y52 y53 y54 y55; rw [show cmpD ⟨a.k, a.i, a.s⟩ ⟨b.k, b.i, b.s⟩ = n from HN.out])
    | (go_at_call 11; (with_reducible refine (refBool_any _ _).mono ?_); rintro e w6 ⟨rfl, hb6⟩; have h6 : Below w.heap.size w w6 := h5.trans (hb6.mono h5.size); have bR6 := bR5.below hb6; have r0 := bR6.cell 0; have r1 := bR6.cell 1; have r2 := bR6.cell 2; have f0 := bR6.frozen 0; have f1 := bR6.frozen 1; have f2 := bR6.frozen 2; simp only [List.getElem?_toArray, List.getElem?_cons_zero, List.getElem?_cons_succ] at r0 r1 r2))
  refine bodyPost_ret ?_ rfl ⟨rfl, ?_⟩
  · simp [results, Tryz.results24, go_sem, r0, r1, r2, holdsB]
  · exact (((h6.setCell (by simp; try omega) _).setCell (by simp; try omega) _).setCell (by simp; try omega) _)
set_option maxRecDepth 100000 in
set_option maxHeartbeats 8000000 in
theorem cmp_same_9 (a b : Dat) (v : Value) (w : World) (hv : DatV w v [a, b]) (h1 : a.k ≠ 0) (h2 : b.k ≠ 0) (ho : onlyR 2 3 [a, b] = false) (hk : a.k = b.k) (n : Int) (hn : cmpD a b = n) :
    Calls Tryz.prog 24 #[.int .i64 9, v] w (ResT (1, bitOf (holdsB 9 n), 0) w) := by
  have HO := Lib.hid (fun w' (hb : Below w.heap.size w w') => only_any 2 3 [a, b] v w' (hv.below hb))
  obtain ⟨p, off, c, rfl, hc, hbl, ⟨x0, x1, x2⟩, x3, x4, x5⟩ := hv.two
  have hb0 := (Below.refl w.heap.size w).alloc (Nat.le_refl _) (.cells #[.int .i64 0, .int .i64 0, .string noText] 27)
  have hx : At3 w p off a := ⟨x0, x1, x2⟩
  have hy : At3 w p (off + 3) b := ⟨x3, x4, x5⟩
  clear hv x0 x1 x2 x3 x4 x5
  obtain ⟨x0, x1, x2⟩ := hx.below hbl hb0
  have hq := fun (o : Obj) => hy.below hbl (hb0.alloc hb0.size o)
  have x3 := fun o => (hq o).1
  have x4 := fun o => (hq o).2.1
  have x5 := fun o => (hq o).2.2
  clear hq hx hy
  obtain ⟨W, hW⟩ : ∃ W, ((w.alloc (.cells #[.int .i64 0, .int .i64 0, .string noText] 27)).alloc (.cells #[.int .i64 a.k, .int .i64 a.i, .string a.s] 27)).alloc (.cells #[.int .i64 b.k, .int .i64 b.i, .string b.s] 27) = W := ⟨_, rfl⟩
  have hb3 : Below w.heap.size w W := by
    rw [← hW]
    exact (hb0.alloc (by simp) _).alloc (by simp; omega) _
  have bR : Blk W w.heap.size #[.int .i64 0, .int .i64 0, .string noText] 27 := by
    rw [← hW]
    exact ((Blk.new w _ _).alloc _).alloc _
  have bA : Blk W (w.heap.size + 1) #[.int .i64 a.k, .int .i64 a.i, .string a.s] 27 := by
    rw [← hW]
    exact (Blk.atB (by simp)).alloc _
  have bB : Blk W (w.heap.size + 1 + 1) #[.int .i64 b.k, .int .i64 b.i, .string b.s] 27 := by
    rw [← hW]
    exact Blk.atB (by simp)
  have HW := Lib.hid hW
  clear hW
  have H1 := Lib.hid h1
  have H2 := Lib.hid h2
  clear h1 h2
  rw [ho] at HO
  have HK := Lib.hid hk
  have HN := Lib.hid hn
  clear ho hk hn
  go_enter Tryz.func24, Tryz.ntmps24
  go_upto_region 3 with fail
  rw [HW.out]
  clear x0 x1 x2 x3 x4 x5
  have y0 := bA.cell 0
  have y1 := bA.cell 1
  have y2 := bA.cell 2
  have y3 := bB.cell 0
  have y4 := bB.cell 1
  have y5 := bB.cell 2
  simp only [List.getElem?_toArray, List.getElem?_cons_zero, List.getElem?_cons_succ] at y0 y1 y2 y3 y4 y5
  have h1 : (a.k == 0) = false := by simpa using H1.out
  have h2 : (b.k == 0) = false := by simpa using H2.out
  have hk : (a.k != b.k) = false := by simpa using HK.out
  go_wp2_with (first
    | (go_at_call 25; have hC := HO.out _ hb3; (with_reducible refine hC.mono ?_); clear hC; rintro e w4 ⟨rfl, hb4⟩; have h4 : Below w.heap.size w w4 := hb3.trans (hb4.mono hb3.size); have bR4 := bR.below hb4; have bA4 := bA.below hb4; have bB4 := bB.below hb4; have y40 := bA4.cell 0; have y41 := bA4.cell 1; have y42 := bA4.cell 2; have y43 := bB4.cell 0; have y44 := bB4.cell 1; have y45 := bB4.cell 2; simp only [List.getElem?_toArray, List.getElem?_cons_zero, List.getElem?_cons_succ] at y40 y41 y42 y43 y44 y45)
    | (go_at_call 44; have hC := refCmp_any a.k a.i a.s b.k b.i b.s w4; (with_reducible refine hC.mono ?_); clear hC; rintro e w5 ⟨rfl, hb5⟩; have h5 : Below w.heap.size w w5 := h4.trans (hb5.mono h4.size); have bR5 := bR4.below hb5; have bA5 := bA4.below hb5; have bB5 := bB4.below hb5; have y50 := bA5.cell 0; have y51 := bA5.cell 1; have y52 := bA5.cell 2; have y53 := bB5.cell 0; have y54 := bB5.cell 1; have y55 := bB5.cell 2; simp only [List.getElem?_toArray, List.getElem?_cons_zero, List.getElem?_cons_succ] at y50 y51 y52 y53 y54 y55; rw [show cmpD ⟨a.k, a.i, a.s⟩ ⟨b.k, b.i, b.s⟩ = n from HN.out])
    | (go_at_call 11; (with_reducible refine (refBool_any _ _).mono ?_); rintro e w6 ⟨rfl, hb6⟩; have h6 : Below w.heap.size w w6 := h5.trans (hb6.mono h5.size); have bR6 := bR5.below hb6; have r0 := bR6.cell 0; have r1 := bR6.cell 1; have r2 := bR6.cell 2; have f0 := bR6.frozen 0; have f1 := bR6.frozen 1; have f2 := bR6.frozen 2; simp only [List.getElem?_toArray, List.getElem?_cons_zero, List.getElem?_cons_succ] at r0 r1 r2))
  refine bodyPost_ret ?_ rfl ⟨rfl, ?_⟩
  · simp [results, Tryz.results24, go_sem, r0, r1, r2, holdsB]
  · exact (((h6.setCell (by simp; try omega) _).setCell (by simp; try omega) _).setCell (by simp; try omega) _)
set_option maxRecDepth 100000 in
set_option maxHeartbeats 8000000 in
theorem cmp_same_10 (a b : Dat) (v : Value) (w : World) (hv : DatV w v [a, b]) (h1 : a.k ≠ 0) (h2 : b.k ≠ 0) (ho : onlyR 2 3 [a, b] = false) (hk : a.k = b.k) (n : Int) (hn : cmpD a b = n) :
    Calls Tryz.prog 24 #[.int .i64 10, v] w (ResT (1, bitOf (holdsB 10 n), 0) w) := by
  have HO := Lib.hid (fun w' (hb : Below w.heap.size w w') => only_any 2 3 [a, b] v w' (hv.below hb))
  obtain ⟨p, off, c, rfl, hc, hbl, ⟨x0, x1, x2⟩, x3, x4, x5⟩ := hv.two
  have hb0 := (Below.refl w.heap.size w).alloc (Nat.le_refl _) (.cells #[.int .i64 0, .int .i64 0, .string noText] 27)
  have hx : At3 w p off a := ⟨x0, x1, x2⟩
  have hy : At3 w p (off + 3) b := ⟨x3, x4, x5⟩
  clear hv x0 x1 x2 x3 x4 x5
  obtain ⟨x0, x1, x2⟩ := hx.below hbl hb0
  have hq := fun (o : Obj) => hy.below hbl (hb0.alloc hb0.size o)
  have x3 := fun o => (hq o).1
  have x4 := fun o => (hq o).2.1
  have x5 := fun o => (hq o).2.2
  clear hq hx hy
  obtain ⟨W, hW⟩ : ∃ W, ((w.alloc (.cells #[.int .i64 0, .int .i64 0, .string noText] 27)).alloc (.cells #[.int .i64 a.k, .int .i64 a.i, .string a.s] 27)).alloc (.cells #[.int .i64 b.k, .int .i64 b.i, .string b.s] 27) = W := ⟨_, rfl⟩
  have hb3 : Below w.heap.size w W := by
    rw [← hW]
    exact (hb0.alloc (by simp) _).alloc (by simp; omega) _
  have bR : Blk W w.heap.size #[.int .i64 0, .int .i64 0, .string noText] 27 := by
    rw [← hW]
    exact ((Blk.new w _ _).alloc _).alloc _
  have bA : Blk W (w.heap.size + 1) #[.int .i64 a.k, .int .i64 a.i, .string a.s] 27 := by
    rw [← hW]
    exact (Blk.atB (by simp)).alloc _
  have bB : Blk W (w.heap.size + 1 + 1) #[.int .i64 b.k, .int .i64 b.i, .string b.s] 27 := by
    rw [← hW]
    exact Blk.atB (by simp)
  have HW := Lib.hid hW
  clear hW
  have H1 := Lib.hid h1
  have H2 := Lib.hid h2
  clear h1 h2
  rw [ho] at HO
  have HK := Lib.hid hk
  have HN := Lib.hid hn
  clear ho hk hn
  go_enter Tryz.func24, Tryz.ntmps24
  go_upto_region 3 with fail
  rw [HW.out]
  clear x0 x1 x2 x3 x4 x5
  have y0 := bA.cell 0
  have y1 := bA.cell 1
  have y2 := bA.cell 2
  have y3 := bB.cell 0
  have y4 := bB.cell 1
  have y5 := bB.cell 2
  simp only [List.getElem?_toArray, List.getElem?_cons_zero, List.getElem?_cons_succ] at y0 y1 y2 y3 y4 y5
  have h1 : (a.k == 0) = false := by simpa using H1.out
  have h2 : (b.k == 0) = false := by simpa using H2.out
  have hk : (a.k != b.k) = false := by simpa using HK.out
  go_wp2_with (first
    | (go_at_call 25; have hC := HO.out _ hb3; (with_reducible refine hC.mono ?_); clear hC; rintro e w4 ⟨rfl, hb4⟩; have h4 : Below w.heap.size w w4 := hb3.trans (hb4.mono hb3.size); have bR4 := bR.below hb4; have bA4 := bA.below hb4; have bB4 := bB.below hb4; have y40 := bA4.cell 0; have y41 := bA4.cell 1; have y42 := bA4.cell 2; have y43 := bB4.cell 0; have y44 := bB4.cell 1; have y45 := bB4.cell 2; simp only [List.getElem?_toArray, List.getElem?_cons_zero, List.getElem?_cons_succ] at y40 y41 y42 y43 y44 y45)
    | (go_at_call 44; have hC := refCmp_any a.k a.i a.s b.k b.i b.s w4; (with_reducible refine hC.mono ?_); clear hC; rintro e w5 ⟨rfl, hb5⟩; have h5 : Below w.heap.size w w5 := h4.trans (hb5.mono h4.size); have bR5 := bR4.below hb5; have bA5 := bA4.below hb5; have bB5 := bB4.below hb5; have y50 := bA5.cell 0; have y51 := bA5.cell 1; have y52 := bA5.cell 2; have y53 := bB5.cell 0; have y54 := bB5.cell 1; have y55 := bB5.cell 2; simp only [List.getElem?_toArray, List.getElem?_cons_zero, List.getElem?_cons_succ] at y50 y51 y52 y53 y54 y55; rw [show cmpD ⟨a.k, a.i, a.s⟩ ⟨b.k, b.i, b.s⟩ = n from HN.out])
    | (go_at_call 11; (with_reducible refine (refBool_any _ _).mono ?_); rintro e w6 ⟨rfl, hb6⟩; have h6 : Below w.heap.size w w6 := h5.trans (hb6.mono h5.size); have bR6 := bR5.below hb6; have r0 := bR6.cell 0; have r1 := bR6.cell 1; have r2 := bR6.cell 2; have f0 := bR6.frozen 0; have f1 := bR6.frozen 1; have f2 := bR6.frozen 2; simp only [List.getElem?_toArray, List.getElem?_cons_zero, List.getElem?_cons_succ] at r0 r1 r2))
  refine bodyPost_ret ?_ rfl ⟨rfl, ?_⟩
  · simp [results, Tryz.results24, go_sem, r0, r1, r2, holdsB]
  · exact (((h6.setCell (by simp; try omega) _).setCell (by simp; try omega) _).setCell (by simp; try omega) _)
set_option maxRecDepth 100000 in
set_option maxHeartbeats 8000000 in
theorem cmp_same_11 (a b : Dat) (v : Value) (w : World) (hv : DatV w v [a, b]) (h1 : a.k ≠ 0) (h2 : b.k ≠ 0) (ho : onlyR 2 3 [a, b] = false) (hk : a.k = b.k) (n : Int) (hn : cmpD a b = n) :
    Calls Tryz.prog 24 #[.int .i64 11, v] w (ResT (1, bitOf (holdsB 11 n), 0) w) := by
  have HO := Lib.hid (fun w' (hb : Below w.heap.size w w') => only_any 2 3 [a, b] v w' (hv.below hb))
  obtain ⟨p, off, c, rfl, hc, hbl, ⟨x0, x1, x2⟩, x3, x4, x5⟩ := hv.two
  have hb0 := (Below.refl w.heap.size w).alloc (Nat.le_refl _) (.cells #[.int .i64 0, .int .i64 0, .string noText] 27)
  have hx : At3 w p off a := ⟨x0, x1, x2⟩
  have hy : At3 w p (off + 3) b := ⟨x3, x4, x5⟩
  clear hv x0 x1 x2 x3 x4 x5
  obtain ⟨x0, x1, x2⟩ := hx.below hbl hb0
  have hq := fun (o : Obj) => hy.below hbl (hb0.alloc hb0.size o)
  have x3 := fun o => (hq o).1
  have x4 := fun o => (hq o).2.1
  have x5 := fun o => (hq o).2.2
  clear hq hx hy
  obtain ⟨W, hW⟩ : ∃ W, ((w.alloc (.cells #[.int .i64 0, .int .i64 0, .string noText] 27)).alloc (.cells #[.int .i64 a.k, .int .i64 a.i, .string a.s] 27)).alloc (.cells #[.int .i64 b.k, .int .i64 b.i, .string b.s] 27) = W := ⟨_, rfl⟩
  have hb3 : Below w.heap.size w W := by
    rw [← hW]
    exact (hb0.alloc (by simp) _).alloc (by simp; omega) _
  have bR : Blk W w.heap.size #[.int .i64 0, .int .i64 0, .string noText] 27 := by
    rw [← hW]
    exact ((Blk.new w _ _).alloc _).alloc _
  have bA : Blk W (w.heap.size + 1) #[.int .i64 a.k, .int .i64 a.i, .string a.s] 27 := by
    rw [← hW]
    exact (Blk.atB (by simp)).alloc _
  have bB : Blk W (w.heap.size + 1 + 1) #[.int .i64 b.k, .int .i64 b.i, .string b.s] 27 := by
    rw [← hW]
    exact Blk.atB (by simp)
  have HW := Lib.hid hW
  clear hW
  have H1 := Lib.hid h1
  have H2 := Lib.hid h2
  clear h1 h2
  rw [ho] at HO
  have HK := Lib.hid hk
  have HN := Lib.hid hn
  clear ho hk hn
  go_enter Tryz.func24, Tryz.ntmps24
  go_upto_region 3 with fail
  rw [HW.out]
  clear x0 x1 x2 x3 x4 x5
  have y0 := bA.cell 0
  have y1 := bA.cell 1
  have y2 := bA.cell 2
  have y3 := bB.cell 0
  have y4 := bB.cell 1
  have y5 := bB.cell 2
  simp only [List.getElem?_toArray, List.getElem?_cons_zero, List.getElem?_cons_succ] at y0 y1 y2 y3 y4 y5
  have h1 : (a.k == 0) = false := by simpa using H1.out
  have h2 : (b.k == 0) = false := by simpa using H2.out
  have hk : (a.k != b.k) = false := by simpa using HK.out
  go_wp2_with (first
    | (go_at_call 25; have hC := HO.out _ hb3; (with_reducible refine hC.mono ?_); clear hC; rintro e w4 ⟨rfl, hb4⟩; have h4 : Below w.heap.size w w4 := hb3.trans (hb4.mono hb3.size); have bR4 := bR.below hb4; have bA4 := bA.below hb4; have bB4 := bB.below hb4; have y40 := bA4.cell 0; have y41 := bA4.cell 1; have y42 := bA4.cell 2; have y43 := bB4.cell 0; have y44 := bB4.cell 1; have y45 := bB4.cell 2; simp only [List.getElem?_toArray, List.getElem?_cons_zero, List.getElem?_cons_succ] at y40 y41 y42 y43 y44 y45)
    | (go_at_call 44; have hC := refCmp_any a.k a.i a.s b.k b.i b.s w4; (with_reducible refine hC.mono ?_); clear hC; rintro e w5 ⟨rfl, hb5⟩; have h5 : Below w.heap.size w w5 := h4.trans (hb5.mono h4.size); have bR5 := bR4.below hb5; have bA5 := bA4.below hb5; have bB5 := bB4.below hb5; have y50 := bA5.cell 0; have y51 := bA5.cell 1; have y52 := bA5.cell 2; have y53 := bB5.cell 0; have y54 := bB5.cell 1; have y55 := bB5.cell 2; simp only [List.getElem?_toArray, List.getElem?_cons_zero, List.getElem?_cons_succ] at y50 y51 y52 y53 y54 y55; rw [show cmpD ⟨a.k, a.i, a.s⟩ ⟨b.k, b.i, b.s⟩ = n from HN.out])
    | (go_at_call 11; (with_reducible refine (refBool_any _ _).mono ?_); rintro e w6 ⟨rfl, hb6⟩; have h6 : Below w.heap.size w w6 := h5.trans (hb6.mono h5.size); have bR6 := bR5.below hb6; have r0 := bR6.cell 0; have r1 := bR6.cell 1; have r2 := bR6.cell 2; have f0 := bR6.frozen 0; have f1 := bR6.frozen 1; have f2 := bR6.frozen 2; simp only [List.getElem?_toArray, List.getElem?_cons_zero, List.getElem?_cons_succ] at r0 r1 r2))
  refine bodyPost_ret ?_ rfl ⟨rfl, ?_⟩
  · simp [results, Tryz.results24, go_sem, r0, r1, r2, holdsB]
  · exact (((h6.setCell (by simp; try omega) _).setCell (by simp; try omega) _).setCell (by simp; try omega) _)
set_option maxRecDepth 100000 in
set_option maxHeartbeats 8000000 in
theorem cmp_same_12 (a b : Dat) (v : Value) (w : World) (hv : DatV w v [a, b]) (h1 : a.k ≠ 0) (h2 : b.k ≠ 0) (ho : onlyR 2 3 [a, b] = false) (hk : a.k = b.k) (n : Int) (hn : cmpD a b = n) :
    Calls Tryz.prog 24 #[.int .i64 12, v] w (ResT (1, bitOf (holdsB 12 n), 0) w) := by
  have HO := Lib.hid (fun w' (hb : Below w.heap.size w w') => only_any 2 3 [a, b] v w' (hv.below hb))
  obtain ⟨p, off, c, rfl, hc, hbl, ⟨x0, x1, x2⟩, x3, x4, x5⟩ := hv.two
  have hb0 := (Below.refl w.heap.size w).alloc (Nat.le_refl _) (.cells #[.int .i64 0, .int .i64 0, .string noText] 27)
  have hx : At3 w p off a := ⟨x0, x1, x2⟩
  have hy : At3 w p (off + 3) b := ⟨x3, x4, x5⟩
  clear hv x0 x1 x2 x3 x4 x5
  obtain ⟨x0, x1, x2⟩ := hx.below hbl hb0
  have hq := fun (o : Obj) => hy.below hbl (hb0.alloc hb0.size o)
  have x3 := fun o => (hq o).1
  have x4 := fun o => (hq o).2.1
  have x5 := fun o => (hq o).2.2
  clear hq hx hy
  obtain ⟨W, hW⟩ : ∃ W, ((w.alloc (.cells #[.int .i64 0, .int .i64 0, .string noText] 27)).alloc (.cells #[.int .i64 a.k, .int .i64 a.i, .string a.s] 27)).alloc (.cells #[.int .i64 b.k, .int .i64 b.i, .string b.s] 27) = W := ⟨_, rfl⟩
  have hb3 : Below w.heap.size w W := by
    rw [← hW]
    exact (hb0.alloc (by simp) _).alloc (by simp; omega) _
  have bR : Blk W w.heap.size #[.int .i64 0, .int .i64 0, .string noText] 27 := by
    rw [← hW]
    exact ((Blk.new w _ _).alloc _).alloc _
  have bA : Blk W (w.heap.size + 1) #[.int .i64 a.k, .int .i64 a.i, .string a.s] 27 := by
    rw [← hW]
    exact (Blk.atB (by simp)).alloc _
  have bB : Blk W (w.heap.size + 1 + 1) #[.int .i64 b.k, .int .i64 b.i, .string b.s] 27 := by
    rw [← hW]
    exact Blk.atB (by simp)
  have HW := Lib.hid hW
  clear hW
  have H1 := Lib.hid h1
  have H2 := Lib.hid h2
  clear h1 h2
  rw [ho] at HO
  have HK := Lib.hid hk
  have HN := Lib.hid hn
  clear ho hk hn
  go_enter Tryz.func24, Tryz.ntmps24
  go_upto_region 3 with fail
  rw [HW.out]
  clear x0 x1 x2 x3 x4 x5
  have y0 := bA.cell 0
  have y1 := bA.cell 1
  have y2 := bA.cell 2
  have y3 := bB.cell 0
  have y4 := bB.cell 1
  have y5 := bB.cell 2
  simp only [List.getElem?_toArray, List.getElem?_cons_zero, List.getElem?_cons_succ] at y0 y1 y2 y3 y4 y5
  have h1 : (a.k == 0) = false := by simpa using H1.out
  have h2 : (b.k == 0) = false := by simpa using H2.out
  have hk : (a.k != b.k) = false := by simpa using HK.out
  go_wp2_with (first
    | (go_at_call 25; have hC := HO.out _ hb3; (with_reducible refine hC.mono ?_); clear hC; rintro e w4 ⟨rfl, hb4⟩; have h4 : Below w.heap.size w w4 := hb3.trans (hb4.mono hb3.size); have bR4 := bR.below hb4; have bA4 := bA.below hb4; have bB4 := bB.below hb4; have y40 := bA4.cell 0; have y41 := bA4.cell 1; have y42 := bA4.cell 2; have y43 := bB4.cell 0; have y44 := bB4.cell 1; have y45 := bB4.cell 2; simp only [List.getElem?_toArray, List.getElem?_cons_zero, List.getElem?_cons_succ] at y40 y41 y42 y43 y44 y45)
    | (go_at_call 44; have hC := refCmp_any a.k a.i a.s b.k b.i b.s w4; (with_reducible refine hC.mono ?_); clear hC; rintro e w5 ⟨rfl, hb5⟩; have h5 : Below w.heap.size w w5 := h4.trans (hb5.mono h4.size); have bR5 := bR4.below hb5; have bA5 := bA4.below hb5; have bB5 := bB4.below hb5; have y50 := bA5.cell 0; have y51 := bA5.cell 1; have y52 := bA5.cell 2; have y53 := bB5.cell 0; have y54 := bB5.cell 1; have y55 := bB5.cell 2; simp only [List.getElem?_toArray, List.getElem?_cons_zero, List.getElem?_cons_succ] at y50 y51 y52 y53 y54 y55; rw [show cmpD ⟨a.k, a.i, a.s⟩ ⟨b.k, b.i, b.s⟩ = n from HN.out])
    | (go_at_call 11; (with_reducible refine (refBool_any _ _).mono ?_); rintro e w6 ⟨rfl, hb6⟩; have h6 : Below w.heap.size w w6 := h5.trans (hb6.mono h5.size); have bR6 := bR5.below hb6; have r0 := bR6.cell 0; have r1 := bR6.cell 1; have r2 := bR6.cell 2; have f0 := bR6.frozen 0; have f1 := bR6.frozen 1; have f2 := bR6.frozen 2; simp only [List.getElem?_toArray, List.getElem?_cons_zero, List.getElem?_cons_succ] at r0 r1 r2))
  refine bodyPost_ret ?_ rfl ⟨rfl, ?_⟩
  · simp [results, Tryz.results24, go_sem, r0, r1, r2, holdsB]
  · exact (((h6.setCell (by simp; try omega) _).setCell (by simp; try omega) _).setCell (by simp; try omega) _)
set_option maxRecDepth 100000 in
set_option maxHeartbeats 8000000 in
theorem cmp_num_7 (a b : Dat) (v : Value) (w : World) (hv : DatV w v [a, b]) (ha : InI a) (hb : InI b) (h1 : a.k ≠ 0) (h2 : b.k ≠ 0) (ho : onlyR 2 3 [a, b] = true) (n : Int) (hn : cmpZ a b = n) :
    Calls Tryz.prog 24 #[.int .i64 7, v] w (ResT (1, bitOf (holdsB 7 n), 0) w) := by
  have HO := Lib.hid (fun w' (hb : Below w.heap.size w w') => only_any 2 3 [a, b] v w' (hv.below hb))
  obtain ⟨p, off, c, rfl, hc, hbl, ⟨x0, x1, x2⟩, x3, x4, x5⟩ := hv.two
  have hb0 := (Below.refl w.heap.size w).alloc (Nat.le_refl _) (.cells #[.int .i64 0, .int .i64 0, .string noText] 27)
  have hx : At3 w p off a := ⟨x0, x1, x2⟩
  have hy : At3 w p (off + 3) b := ⟨x3, x4, x5⟩
  clear hv x0 x1 x2 x3 x4 x5
  obtain ⟨x0, x1, x2⟩ := hx.below hbl hb0
  have hq := fun (o : Obj) => hy.below hbl (hb0.alloc hb0.size o)
  have x3 := fun o => (hq o).1
  have x4 := fun o => (hq o).2.1
  have x5 := fun o => (hq o).2.2
  clear hq hx hy
  obtain ⟨W, hW⟩ : ∃ W, ((w.alloc (.cells #[.int .i64 0, .int .i64 0, .string noText] 27)).alloc (.cells #[.int .i64 a.k, .int .i64 a.i, .string a.s] 27)).alloc (.cells #[.int .i64 b.k, .int .i64 b.i, .string b.s] 27) = W := ⟨_, rfl⟩
  have hb3 : Below w.heap.size w W := by
    rw [← hW]
    exact (hb0.alloc (by simp) _).alloc (by simp; omega) _
  have bR : Blk W w.heap.size #[.int .i64 0, .int .i64 0, .string noText] 27 := by
    rw [← hW]
    exact ((Blk.new w _ _).alloc _).alloc _
  have bA : Blk W (w.heap.size + 1) #[.int .i64 a.k, .int .i64 a.i, .string a.s] 27 := by
    rw [← hW]
    exact (Blk.atB (by simp)).alloc _
  have bB : Blk W (w.heap.size + 1 + 1) #[.int .i64 b.k, .int .i64 b.i, .string b.s] 27 := by
    rw [← hW]
    exact Blk.atB (by simp)
  have HW := Lib.hid hW
  clear hW
  have H1 := Lib.hid h1
  have H2 := Lib.hid h2
  clear h1 h2
  rw [ho] at HO
  have HN := Lib.hid hn
  unfold InI at ha hb
  clear ho hn
  go_enter Tryz.func24, Tryz.ntmps24
  go_upto_region 3 with fail
  rw [HW.out]
  clear x0 x1 x2 x3 x4 x5
  have y0 := bA.cell 0
  have y1 := bA.cell 1
  have y2 := bA.cell 2
  have y3 := bB.cell 0
  have y4 := bB.cell 1
  have y5 := bB.cell 2
  simp only [List.getElem?_toArray, List.getElem?_cons_zero, List.getElem?_cons_succ] at y0 y1 y2 y3 y4 y5
  have h1 : (a.k == 0) = false := by simpa using H1.out
  have h2 : (b.k == 0) = false := by simpa using H2.out
  go_wp2_with (first
    | (go_at_call 25; have hC := HO.out _ hb3; (with_reducible refine hC.mono ?_); clear hC; rintro e w4 ⟨rfl, hb4⟩; have h4 : Below w.heap.size w w4 := hb3.trans (hb4.mono hb3.size); have bR4 := bR.below hb4; have bA4 := bA.below hb4; have bB4 := bB.below hb4; have y40 := bA4.cell 0; have y41 := bA4.cell 1; have y42 := bA4.cell 2; have y43 := bB4.cell 0; have y44 := bB4.cell 1; have y45 := bB4.cell 2; simp only [List.getElem?_toArray, List.getElem?_cons_zero, List.getElem?_cons_succ] at y40 y41 y42 y43 y44 y45)
    | (go_at_call 44; have hC := refCmp_any a.k a.i a.s b.k b.i b.s w4; (with_reducible refine hC.mono ?_); clear hC; rintro e w5 ⟨rfl, hb5⟩; have h5 : Below w.heap.size w w5 := h4.trans (hb5.mono h4.size); have bR5 := bR4.below hb5; have bA5 := bA4.below hb5; have bB5 := bB4.below hb5; have y50 := bA5.cell 0; have y51 := bA5.cell 1; have y52 := bA5.cell 2; have y53 := bB5.cell 0; have y54 := bB5.cell 1; have y55 := bB5.cell 2; simp only [List.getElem?_toArray, List.getElem?_cons_zero, List.getElem?_cons_succ] at y50 y51 y52 y53 y54 y55))
  go_region_held3 (fun w' => w'.cell? ⟨w.heap.size + 1, 0, none⟩ = some (.int .i64 a.k) ∧ w'.cell? ⟨w.heap.size + 1, 1, none⟩ = some (.int .i64 a.i) ∧ w'.cell? ⟨w.heap.size + 1, 2, none⟩ = some (.string a.s) ∧ w'.cell? ⟨w.heap.size + 1 + 1, 0, none⟩ = some (.int .i64 b.k) ∧ w'.cell? ⟨w.heap.size + 1 + 1, 1, none⟩ = some (.int .i64 b.i) ∧ w'.cell? ⟨w.heap.size + 1 + 1, 2, none⟩ = some (.string b.s)) (first | exact ⟨y50, y51, y52, y53, y54, y55⟩ | exact ⟨y80, y81, y82, y83, y84, y85⟩ | exact ⟨y70, y71, y72, y73, y74, y75⟩ | exact ⟨y60, y61, y62, y63, y64, y65⟩) ((first
    | (go_at_call 46; have hC := number_f2 a.k a.i a.s w5.drew ha.1 ha.2; (with_reducible refine hC.mono ?_); clear hC; rintro e w6 ⟨m6, v6, L6, rfl, hd6, hn6, hz6, hs6, hb6⟩; obtain ⟨A6, c6, rfl, _, _⟩ := DigV.open hd6.1; have h6 : Below w.heap.size w w6 := h5.drew.trans (hb6.mono h5.drew.size); have bR6 := bR5.drew.below hb6; have bA6 := bA5.drew.below hb6; have bB6 := bB5.drew.below hb6; have y60 := bA6.cell 0; have y61 := bA6.cell 1; have y62 := bA6.cell 2; have y63 := bB6.cell 0; have y64 := bB6.cell 1; have y65 := bB6.cell 2; simp only [List.getElem?_toArray, List.getElem?_cons_zero, List.getElem?_cons_succ] at y60 y61 y62 y63 y64 y65; have l6 := big_len (n := 4) hn6 hz6 (numZ_pw a.k ha).1 (numZ_pw a.k ha).2)
    | (go_at_call 46; have hC := number_f2 b.k b.i b.s w6 hb.1 hb.2; (with_reducible refine hC.mono ?_); clear hC; rintro e w7 ⟨m7, v7, L7, rfl, hd7, hn7, hz7, hs7, hb7⟩; obtain ⟨A7, c7, rfl, _, _⟩ := DigV.open hd7.1; have h7 : Below w.heap.size w w7 := h6.trans (hb7.mono h6.size); have bR7 := bR6.below hb7; have bA7 := bA6.below hb7; have bB7 := bB6.below hb7; have y70 := bA7.cell 0; have y71 := bA7.cell 1; have y72 := bA7.cell 2; have y73 := bB7.cell 0; have y74 := bB7.cell 1; have y75 := bB7.cell 2; simp only [List.getElem?_toArray, List.getElem?_cons_zero, List.getElem?_cons_succ] at y70 y71 y72 y73 y74 y75; have l7 := big_len (n := 4) hn7 hz7 (numZ_pw b.k hb).1 (numZ_pw b.k hb).2)
    | (go_at_call 45; have hC := order_f m6 m7 _ _ L6 L7 w7 (hd6.1.below hb7) hd7.1 hn6 hn7 (by omega) hs6 hs7 _ _ hz6 hz7; (with_reducible refine hC.mono ?_); clear hC; rintro e w8 ⟨rfl, hb8⟩; have h8 : Below w.heap.size w w8 := h7.trans (hb8.mono h7.size); have bR8 := bR7.below hb8; have bA8 := bA7.below hb8; have bB8 := bB7.below hb8; have y80 := bA8.cell 0; have y81 := bA8.cell 1; have y82 := bA8.cell 2; have y83 := bB8.cell 0; have y84 := bB8.cell 1; have y85 := bB8.cell 2; simp only [List.getElem?_toArray, List.getElem?_cons_zero, List.getElem?_cons_succ] at y80 y81 y82 y83 y84 y85; rw [show ordI (numZ a.k a.i) (numZ b.k b.i) = n from HN.out])))
  go_step
  go_step
  go_wp2_with (go_at_call 11; (with_reducible refine (refBool_any _ _).mono ?_); rintro e w9 ⟨rfl, hb9⟩; have h9 : Below w.heap.size w w9 := h8.trans (hb9.mono h8.size); have bR9 := bR8.below hb9; have r0 := bR9.cell 0; have r1 := bR9.cell 1; have r2 := bR9.cell 2; have f0 := bR9.frozen 0; have f1 := bR9.frozen 1; have f2 := bR9.frozen 2; simp only [List.getElem?_toArray, List.getElem?_cons_zero, List.getElem?_cons_succ] at r0 r1 r2)
  refine bodyPost_ret ?_ rfl ⟨rfl, ?_⟩
  · simp [results, Tryz.results24, go_sem, r0, r1, r2, holdsB]
  · exact (((h9.setCell (by simp; try omega) _).setCell (by simp; try omega) _).setCell (by simp; try omega) _)
set_option maxRecDepth 100000 in
set_option maxHeartbeats 8000000 in
theorem cmp_num_8 (a b : Dat) (v : Value) (w : World) (hv : DatV w v [a, b]) (ha : InI a) (hb : InI b) (h1 : a.k ≠ 0) (h2 : b.k ≠ 0) (ho : onlyR 2 3 [a, b] = true) (n : Int) (hn : cmpZ a b = n) :
    Calls Tryz.prog 24 #[.int .i64 8, v] w (ResT (1, bitOf (holdsB 8 n), 0) w) := by
  have HO := Lib.hid (fun w' (hb : Below w.heap.size w w') => only_any 2 3 [a, b] v w' (hv.below hb))
  obtain ⟨p, off, c, rfl, hc, hbl, ⟨x0, x1, x2⟩, x3, x4, x5⟩ := hv.two
  have hb0 := (Below.refl w.heap.size w).alloc (Nat.le_refl _) (.cells #[.int .i64 0, .int .i64 0, .string noText] 27)
  have hx : At3 w p off a := ⟨x0, x1, x2⟩
  have hy : At3 w p (off + 3) b := ⟨x3, x4, x5⟩
  clear hv x0 x1 x2 x3 x4 x5
  obtain ⟨x0, x1, x2⟩ := hx.below hbl hb0
  have hq := fun (o : Obj) => hy.below hbl (hb0.alloc hb0.size o)
  have x3 := fun o => (hq o).1
  have x4 := fun o => (hq o).2.1
  have x5 := fun o => (hq o).2.2
  clear hq hx hy
  obtain ⟨W, hW⟩ : ∃ W, ((w.alloc (.cells #[.int .i64 0, .int .i64 0, .string noText] 27)).alloc (.cells #[.int .i64 a.k, .int .i64 a.i, .string a.s] 27)).alloc (.cells #[.int .i64 b.k, .int .i64 b.i, .string b.s] 27) = W := ⟨_, rfl⟩
  have hb3 : Below w.heap.size w W := by
    rw [← hW]
    exact (hb0.alloc (by simp) _).alloc (by simp; omega) _
  have bR : Blk W w.heap.size #[.int .i64 0, .int .i64 0, .string noText] 27 := by
    rw [← hW]
    exact ((Blk.new w _ _).alloc _).alloc _
  have bA : Blk W (w.heap.size + 1) #[.int .i64 a.k, .int .i64 a.i, .string a.s] 27 := by
    rw [← hW]
    exact (Blk.atB (by simp)).alloc _
  have bB : Blk W (w.heap.size + 1 + 1) #[.int .i64 b.k, .int .i64 b.i, .string b.s] 27 := by
    rw [← hW]
    exact Blk.atB (by simp)
  have HW := Lib.hid hW
  clear hW
  have H1 := Lib.hid h1
  have H2 := Lib.hid h2
  clear h1 h2
  rw [ho] at HO
  have HN := Lib.hid hn
  unfold InI at ha hb
  clear ho hn
  go_enter Tryz.func24, Tryz.ntmps24
  go_upto_region 3 with fail
  rw [HW.out]
  clear x0 x1 x2 x3 x4 x5
  have y0 := bA.cell 0
  have y1 := bA.cell 1
  have y2 := bA.cell 2
  have y3 := bB.cell 0
  have y4 := bB.cell 1
  have y5 := bB.cell 2
  simp only [List.getElem?_toArray, List.getElem?_cons_zero, List.getElem?_cons_succ] at y0 y1 y2 y3 y4 y5
  have h1 : (a.k == 0) = false := by simpa using H1.out
  have h2 : (b.k == 0) = false := by simpa using H2.out
  go_wp2_with (first
    | (go_at_call 25; have hC := HO.out _ hb3; (with_reducible refine hC.mono ?_); clear hC; rintro e w4 ⟨rfl, hb4⟩; have h4 : Below w.heap.size w w4 := hb3.trans (hb4.mono hb3.size); have bR4 := bR.below hb4; have bA4 := bA.below hb4; have bB4 := bB.below hb4; have y40 := bA4.cell 0; have y41 := bA4.cell 1; have y42 := bA4.cell 2; have y43 := bB4.cell 0; have y44 := bB4.cell 1; have y45 := bB4.cell 2; simp only [List.getElem?_toArray, List.getElem?_cons_zero, List.getElem?_cons_succ] at y40 y41 y42 y43 y44 y45)
    | (go_at_call 44; have hC := refCmp_any a.k a.i a.s b.k b.i b.s w4; (with_reducible refine hC.mono ?_); clear hC; rintro e w5 ⟨rfl, hb5⟩; have h5 : Below w.heap.size w w5 := h4.trans (hb5.mono h4.size); have bR5 := bR4.below hb5; have bA5 := bA4.below hb5; have bB5 := bB4.below hb5; have y50 := bA5.cell 0; have y51 := bA5.cell 1; have y52 := bA5.cell 2; have y53 := bB5.cell 0; have y54 := bB5.cell 1; have y55 := bB5.cell 2; simp only [List.getElem?_toArray, List.getElem?_cons_zero, List.getElem?_cons_succ] at y50 y51 y52 y53 y54 y55))
  go_region_held3 (fun w' => w'.cell? ⟨w.heap.size + 1, 0, none⟩ = some (.int .i64 a.k) ∧ w'.cell? ⟨w.heap.size + 1, 1, none⟩ = some (.int .i64 a.i) ∧ w'.cell? ⟨w.heap.size + 1, 2, none⟩ = some (.string a.s) ∧ w'.cell? ⟨w.heap.size + 1 + 1, 0, none⟩ = some (.int .i64 b.k) ∧ w'.cell? ⟨w.heap.size + 1 + 1, 1, none⟩ = some (.int .i64 b.i) ∧ w'.cell? ⟨w.heap.size + 1 + 1, 2, none⟩ = some (.string b.s)) (first | exact ⟨y50, y51, y52, y53, y54, y55⟩ | exact ⟨y80, y81, y82, y83, y84, y85⟩ | exact ⟨y70, y71, y72, y73, y74, y75⟩ | exact ⟨y60, y61, y62, y63, y64, y65⟩) ((first
    | (go_at_call 46; have hC := number_f2 a.k a.i a.s w5.drew ha.1 ha.2; (with_reducible refine hC.mono ?_); clear hC; rintro e w6 ⟨m6, v6, L6, rfl, hd6, hn6, hz6, hs6, hb6⟩; obtain ⟨A6, c6, rfl, _, _⟩ := DigV.open hd6.1; have h6 : Below w.heap.size w w6 := h5.drew.trans (hb6.mono h5.drew.size); have bR6 := bR5.drew.below hb6; have bA6 := bA5.drew.below hb6; have bB6 := bB5.drew.below hb6; have y60 := bA6.cell 0; have y61 := bA6.cell 1; have y62 := bA6.cell 2; have y63 := bB6.cell 0; have y64 := bB6.cell 1; have y65 := bB6.cell 2; simp only [List.getElem?_toArray, List.getElem?_cons_zero, List.getElem?_cons_succ] at y60 y61 y62 y63 y64 y65; have l6 := big_len (n := 4) hn6 hz6 (numZ_pw a.k ha).1 (numZ_pw a.k ha).2)
    | (go_at_call 46; have hC := number_f2 b.k b.i b.s w6 hb.1 hb.2; (with_reducible refine hC.mono ?_); clear hC; rintro e w7 ⟨m7, v7, L7, rfl, hd7, hn7, hz7, hs7, hb7⟩; obtain ⟨A7, c7, rfl, _, _⟩ := DigV.open hd7.1; have h7 : Below w.heap.size w w7 := h6.trans (hb7.mono h6.size); have bR7 := bR6.below hb7; have bA7 := bA6.below hb7; have bB7 := bB6.below hb7; have y70 := bA7.cell 0; have y71 := bA7.cell 1; have y72 := bA7.cell 2; have y73 := bB7.cell 0; have y74 := bB7.cell 1; have y75 := bB7.cell 2; simp only [List.getElem?_toArray, List.getElem?_cons_zero, List.getElem?_cons_succ] at y70 y71 y72 y73 y74 y75; have l7 := big_len (n := 4) hn7 hz7 (numZ_pw b.k hb).1 (numZ_pw b.k hb).2)
    | (go_at_call 45; have hC := order_f m6 m7 _ _ L6 L7 w7 (hd6.1.below hb7) hd7.1 hn6 hn7 (by omega) hs6 hs7 _ _ hz6 hz7; (with_reducible refine hC.mono ?_); clear hC; rintro e w8 ⟨rfl, hb8⟩; have h8 : Below w.heap.size w w8 := h7.trans (hb8.mono h7.size); have bR8 := bR7.below hb8; have bA8 := bA7.below hb8; have bB8 := bB7.below hb8; have y80 := bA8.cell 0; have y81 := bA8.cell 1; have y82 := bA8.cell 2; have y83 := bB8.cell 0; have y84 := bB8.cell 1; have y85 := bB8.cell 2; simp only [List.getElem?_toArray, List.getElem?_cons_zero, List.getElem?_cons_succ] at y80 y81 y82 y83 y84 y85; rw [show ordI (numZ a.k a.i) (numZ b.k b.i) = n from HN.out])))
  go_step
  go_step
  go_wp2_with (go_at_call 11; (with_reducible refine (refBool_any _ _).mono ?_); rintro e w9 ⟨rfl, hb9⟩; have h9 : Below w.heap.size w w9 := h8.trans (hb9.mono h8.size); have bR9 := bR8.below hb9; have r0 := bR9.cell 0; have r1 := bR9.cell 1; have r2 := bR9.cell 2; have f0 := bR9.frozen 0; have f1 := bR9.frozen 1; have f2 := bR9.frozen 2; simp only [List.getElem?_toArray, List.getElem?_cons_zero, List.getElem?_cons_succ] at r0 r1 r2)
  refine bodyPost_ret ?_ rfl ⟨rfl, ?_⟩
  · simp [results, Tryz.results24, go_sem, r0, r1, r2, holdsB]
  · exact (((h9.setCell (by simp; try omega) _).setCell (by simp; try omega) _).setCell (by simp; try omega) _)
set_option maxRecDepth 100000 in
set_option maxHeartbeats 8000000 in
theorem cmp_num_9 (a b : Dat) (v : Value) (w : World) (hv : DatV w v [a, b]) (ha : InI a) (hb : InI b) (h1 : a.k ≠ 0) (h2 : b.k ≠ 0) (ho : onlyR 2 3 [a, b] = true) (n : Int) (hn : cmpZ a b = n) :
    Calls Tryz.prog 24 #[.int .i64 9, v] w (ResT (1, bitOf (holdsB 9 n), 0) w) := by
  have HO := Lib.hid (fun w' (hb : Below w.heap.size w w') => only_any 2 3 [a, b] v w' (hv.below hb))
  obtain ⟨p, off, c, rfl, hc, hbl, ⟨x0, x1, x2⟩, x3, x4, x5⟩ := hv.two
  have hb0 := (Below.refl w.heap.size w).alloc (Nat.le_refl _) (.cells #[.int .i64 0, .int .i64 0, .string noText] 27)
  have hx : At3 w p off a := ⟨x0, x1, x2⟩
  have hy : At3 w p (off + 3) b := ⟨x3, x4, x5⟩
  clear hv x0 x1 x2 x3 x4 x5
  obtain ⟨x0, x1, x2⟩ := hx.below hbl hb0
  have hq := fun (o : Obj) => hy.below hbl (hb0.alloc hb0.size o)
  have x3 := fun o => (hq o).1
  have x4 := fun o => (hq o).2.1
  have x5 := fun o => (hq o).2.2
  clear hq hx hy
  obtain ⟨W, hW⟩ : ∃ W, ((w.alloc (.cells #[.int .i64 0, .int .i64 0, .string noText] 27)).alloc (.cells #[.int .i64 a.k, .int .i64 a.i, .string a.s] 27)).alloc (.cells #[.int .i64 b.k, .int .i64 b.i, .string b.s] 27) = W := ⟨_, rfl⟩
  have hb3 : Below w.heap.size w W := by
    rw [← hW]
    exact (hb0.alloc (by simp) _).alloc (by simp; omega) _
  have bR : Blk W w.heap.size #[.int .i64 0, .int .i64 0, .string noText] 27 := by
    rw [← hW]
    exact ((Blk.new w _ _).alloc _).alloc _
  have bA : Blk W (w.heap.size + 1) #[.int .i64 a.k, .int .i64 a.i, .string a.s] 27 := by
    rw [← hW]
    exact (Blk.atB (by simp)).alloc _
  have bB : Blk W (w.heap.size + 1 + 1) #[.int .i64 b.k, .int .i64 b.i, .string b.s] 27 := by
    rw [← hW]
    exact Blk.atB (by simp)
  have HW := Lib.hid hW
  clear hW
  have H1 := Lib.hid h1
  have H2 := Lib.hid h2
  clear h1 h2
  rw [ho] at HO
  have HN := Lib.hid hn
  unfold InI at ha hb
  clear ho hn
  go_enter Tryz.func24, Tryz.ntmps24
  go_upto_region 3 with fail
  rw [HW.out]
  clear x0 x1 x2 x3 x4 x5
  have y0 := bA.cell 0
  have y1 := bA.cell 1
  have y2 := bA.cell 2
  have y3 := bB.cell 0
  have y4 := bB.cell 1
  have y5 := bB.cell 2
  simp only [List.getElem?_toArray, List.getElem?_cons_zero, List.getElem?_cons_succ] at y0 y1 y2 y3 y4 y5
  have h1 : (a.k == 0) = false := by simpa using H1.out
  have h2 : (b.k == 0) = false := by simpa using H2.out
  go_wp2_with (first
    | (go_at_call 25; have hC := HO.out _ hb3; (with_reducible refine hC.mono ?_); clear hC; rintro e w4 ⟨rfl, hb4⟩; have h4 : Below w.heap.size w w4 := hb3.trans (hb4.mono hb3.size); have bR4 := bR.below hb4; have bA4 := bA.below hb4; have bB4 := bB.below hb4; have y40 := bA4.cell 0; have y41 := bA4.cell 1; have y42 := bA4.cell 2; have y43 := bB4.cell 0; have y44 := bB4.cell 1; have y45 := bB4.cell 2; simp only [List.getElem?_toArray, List.getElem?_cons_zero, List.getElem?_cons_succ] at y40 y41 y42 y43 y44 y45)
    | (go_at_call 44; have hC := refCmp_any a.k a.i a.s b.k b.i b.s w4; (with_reducible refine hC.mono ?_); clear hC; rintro e w5 ⟨rfl, hb5⟩; have h5 : Below w.heap.size w w5 := h4.trans (hb5.mono h4.size); have bR5 := bR4.below hb5; have bA5 := bA4.below hb5; have bB5 := bB4.below hb5; have y50 := bA5.cell 0; have y51 := bA5.cell 1; have y52 := bA5.cell 2; have y53 := bB5.cell 0; have y54 := bB5.cell 1; have y55 := bB5.cell 2; simp only [List.getElem?_toArray, List.getElem?_cons_zero, List.getElem?_cons_succ] at y50 y51 y52 y53 y54 y55))
  go_region_held3 (fun w' => w'.cell? ⟨w.heap.size + 1, 0, none⟩ = some (.int .i64 a.k) ∧ w'.cell? ⟨w.heap.size + 1, 1, none⟩ = some (.int .i64 a.i) ∧ w'.cell? ⟨w.heap.size + 1, 2, none⟩ = some (.string a.s) ∧ w'.cell? ⟨w.heap.size + 1 + 1, 0, none⟩ = some (.int .i64 b.k) ∧ w'.cell? ⟨w.heap.size + 1 + 1, 1, none⟩ = some (.int .i64 b.i) ∧ w'.cell? ⟨w.heap.size + 1 + 1, 2, none⟩ = some (.string b.s)) (first | exact ⟨y50, y51, y52, y53, y54, y55⟩ | exact ⟨y80, y81, y82, y83, y84, y85⟩ | exact ⟨y70, y71, y72, y73, y74, y75⟩ | exact ⟨y60, y61, y62, y63, y64, y65⟩) ((first
    | (go_at_call 46; have hC := number_f2 a.k a.i a.s w5.drew ha.1 ha.2; (with_reducible refine hC.mono ?_); clear hC; rintro e w6 ⟨m6, v6, L6, rfl, hd6, hn6, hz6, hs6, hb6⟩; obtain ⟨A6, c6, rfl, _, _⟩ := DigV.open hd6.1; have h6 : Below w.heap.size w w6 := h5.drew.trans (hb6.mono h5.drew.size); have bR6 := bR5.drew.below hb6; have bA6 := bA5.drew.below hb6; have bB6 := bB5.drew.below hb6; have y60 := bA6.cell 0; have y61 := bA6.cell 1; have y62 := bA6.cell 2; have y63 := bB6.cell 0; have y64 := bB6.cell 1; have y65 := bB6.cell 2; simp only [List.getElem?_toArray, List.getElem?_cons_zero, List.getElem?_cons_succ] at y60 y61 y62 y63 y64 y65; have l6 := big_len (n := 4) hn6 hz6 (numZ_pw a.k ha).1 (numZ_pw a.k ha).2)
    | (go_at_call 46; have hC := number_f2 b.k b.i b.s w6 hb.1 hb.2; (with_reducible refine hC.mono ?_); clear hC; rintro e w7 ⟨m7, v7, L7, rfl, hd7, hn7, hz7, hs7, hb7⟩; obtain ⟨A7, c7, rfl, _, _⟩ := DigV.open hd7.1; have h7 : Below w.heap.size w w7 := h6.trans (hb7.mono h6.size); have bR7 := bR6.below hb7; have bA7 := bA6.below hb7; have bB7 := bB6.below hb7; have y70 := bA7.cell 0; have y71 := bA7.cell 1; have y72 := bA7.cell 2; have y73 := bB7.cell 0; have y74 := bB7.cell 1; have y75 := bB7.cell 2; simp only [List.getElem?_toArray, List.getElem?_cons_zero, List.getElem?_cons_succ] at y70 y71 y72 y73 y74 y75; have l7 := big_len (n := 4) hn7 hz7 (numZ_pw b.k hb).1 (numZ_pw b.k hb).2)
    | (go_at_call 45; have hC := order_f m6 m7 _ _ L6 L7 w7 (hd6.1.below hb7) hd7.1 hn6 hn7 (by omega) hs6 hs7 _ _ hz6 hz7; (with_reducible refine hC.mono ?_); clear hC; rintro e w8 ⟨rfl, hb8⟩; have h8 : Below w.heap.size w w8 := h7.trans (hb8.mono h7.size); have bR8 := bR7.below hb8; have bA8 := bA7.below hb8; have bB8 := bB7.below hb8; have y80 := bA8.cell 0; have y81 := bA8.cell 1; have y82 := bA8.cell 2; have y83 := bB8.cell 0; have y84 := bB8.cell 1; have y85 := bB8.cell 2; simp only [List.getElem?_toArray, List.getElem?_cons_zero, List.getElem?_cons_succ] at y80 y81 y82 y83 y84 y85; rw [show ordI (numZ a.k a.i) (numZ b.k b.i) = n from HN.out])))
  go_step
  go_step
  go_wp2_with (go_at_call 11; (with_reducible refine (refBool_any _ _).mono ?_); rintro e w9 ⟨rfl, hb9⟩; have h9 : Below w.heap.size w w9 := h8.trans (hb9.mono h8.size); have bR9 := bR8.below hb9; have r0 := bR9.cell 0; have r1 := bR9.cell 1; have r2 := bR9.cell 2; have f0 := bR9.frozen 0; have f1 := bR9.frozen 1; have f2 := bR9.frozen 2; simp only [List.getElem?_toArray, List.getElem?_cons_zero, List.getElem?_cons_succ] at r0 r1 r2)
  refine bodyPost_ret ?_ rfl ⟨rfl, ?_⟩
  · simp [results, Tryz.results24, go_sem, r0, r1, r2, holdsB]
  · exact (((h9.setCell (by simp; try omega) _).setCell (by simp; try omega) _).setCell (by simp; try omega) _)
set_option maxRecDepth 100000 in
set_option maxHeartbeats 8000000 in
theorem cmp_num_10 (a b : Dat) (v : Value) (w : World) (hv : DatV w v [a, b]) (ha : InI a) (hb : InI b) (h1 : a.k ≠ 0) (h2 : b.k ≠ 0) (ho : onlyR 2 3 [a, b] = true) (n : Int) (hn : cmpZ a b = n) :
    Calls Tryz.prog 24 #[.int .i64 10, v] w (ResT (1, bitOf (holdsB 10 n), 0) w) := by
  have HO := Lib.hid (fun w' (hb : Below w.heap.size w w') => only_any 2 3 [a, b] v w' (hv.below hb))
  obtain ⟨p, off, c, rfl, hc, hbl, ⟨x0, x1, x2⟩, x3, x4, x5⟩ := hv.two
  have hb0 := (Below.refl w.heap.size w).alloc (Nat.le_refl _) (.cells #[.int .i64 0, .int .i64 0, .string noText] 27)
  have hx : At3 w p off a := ⟨x0, x1, x2⟩
  have hy : At3 w p (off + 3) b := ⟨x3, x4, x5⟩
  clear hv x0 x1 x2 x3 x4 x5
  obtain ⟨x0, x1, x2⟩ := hx.below hbl hb0
  have hq := fun (o : Obj) => hy.below hbl (hb0.alloc hb0.size o)
  have x3 := fun o => (hq o).1
  have x4 := fun o => (hq o).2.1
  have x5 := fun o => (hq o).2.2
  clear hq hx hy
  obtain ⟨W, hW⟩ : ∃ W, ((w.alloc (.cells #[.int .i64 0, .int .i64 0, .string noText] 27)).alloc (.cells #[.int .i64 a.k, .int .i64 a.i, .string a.s] 27)).alloc (.cells #[.int .i64 b.k, .int .i64 b.i, .string b.s] 27) = W := ⟨_, rfl⟩
  have hb3 : Below w.heap.size w W := by
    rw [← hW]
    exact (hb0.alloc (by simp) _).alloc (by simp; omega) _
  have bR : Blk W w.heap.size #[.int .i64 0, .int .i64 0, .string noText] 27 := by
    rw [← hW]
    exact ((Blk.new w _ _).alloc _).alloc _
  have bA : Blk W (w.heap.size + 1) #[.int .i64 a.k, .int .i64 a.i, .string a.s] 27 := by
    rw [← hW]
    exact (Blk.atB (by simp)).alloc _
  have bB : Blk W (w.heap.size + 1 + 1) #[.int .i64 b.k, .int .i64 b.i, .string b.s] 27 := by
    rw [← hW]
    exact Blk.atB (by simp)
  have HW := Lib.hid hW
  clear hW
  have H1 := Lib.hid h1
  have H2 := Lib.hid h2
  clear h1 h2
  rw [ho] at HO
  have HN := Lib.hid hn
  unfold InI at ha hb
  clear ho hn
  go_enter Tryz.func24, Tryz.ntmps24
  go_upto_region 3 with fail
  rw [HW.out]
  clear x0 x1 x2 x3 x4 x5
  have y0 := bA.cell 0
  have y1 := bA.cell 1
  have y2 := bA.cell 2
  have y3 := bB.cell 0
  have y4 := bB.cell 1
  have y5 := bB.cell 2
  simp only [List.getElem?_toArray, List.getElem?_cons_zero, List.getElem?_cons_succ] at y0 y1 y2 y3 y4 y5
  have h1 : (a.k == 0) = false := by simpa using H1.out
  have h2 : (b.k == 0) = false := by simpa using H2.out
  go_wp2_with (first
    | (go_at_call 25; have hC := HO.out _ hb3; (with_reducible refine hC.mono ?_); clear hC; rintro e w4 ⟨rfl, hb4⟩; have h4 : Below w.heap.size w w4 := hb3.trans (hb4.mono hb3.size); have bR4 := bR.below hb4; have bA4 := bA.below hb4; have bB4 := bB.below hb4; have y40 := bA4.cell 0; have y41 := bA4.cell 1; have y42 := bA4.cell 2; have y43 := bB4.cell 0; have y44 := bB4.cell 1; have y45 := bB4.cell 2; simp only [List.getElem?_toArray, List.getElem?_cons_zero, List.getElem?_cons_succ] at y40 y41 y42 y43 y44 y45)
    | (go_at_call 44; have hC := refCmp_any a.k a.i a.s b.k b.i b.s w4; (with_reducible refine hC.mono ?_); clear hC; rintro e w5 ⟨rfl, hb5⟩; have h5 : Below w.heap.size w w5 := h4.trans (hb5.mono h4.size); have bR5 := bR4.below hb5; have bA5 := bA4.below hb5; have bB5 := bB4.below hb5; have y50 := bA5.cell 0; have y51 := bA5.cell 1; have y52 := bA5.cell 2; have y53 := bB5.cell 0; have y54 := bB5.cell 1; have y55 := bB5.cell 2; simp only [List.getElem?_toArray, List.getElem?_cons_zero, List.getElem?_cons_succ] at y50 y51 y52 y53 y54 y55))
  go_region_held3 (fun w' => w'.cell? ⟨w.heap.size + 1, 0, none⟩ = some (.int .i64 a.k) ∧ w'.cell? ⟨w.heap.size + 1, 1, none⟩ = some (.int .i64 a.i) ∧ w'.cell? ⟨w.heap.size + 1, 2, none⟩ = some (.string a.s) ∧ w'.cell? ⟨w.heap.size + 1 + 1, 0, none⟩ = some (.int .i64 b.k) ∧ w'.cell? ⟨w.heap.size + 1 + 1, 1, none⟩ = some (.int .i64 b.i) ∧ w'.cell? ⟨w.heap.size + 1 + 1, 2, none⟩ = some (.string b.s)) (first | exact ⟨y50, y51, y52, y53, y54, y55⟩ | exact ⟨y80, y81, y82, y83, y84, y85⟩ | exact ⟨y70, y71, y72, y73, y74, y75⟩ | exact ⟨y60, y61, y62, y63, y64, y65⟩) ((first
    | (go_at_call 46; have hC := number_f2 a.k a.i a.s w5.drew ha.1 ha.2; (with_reducible refine hC.mono ?_); clear hC; rintro e w6 ⟨m6, v6, L6, rfl, hd6, hn6, hz6, hs6, hb6⟩; obtain ⟨A6, c6, rfl, _, _⟩ := DigV.open hd6.1; have h6 : Below w.heap.size w w6 := h5.drew.trans (hb6.mono h5.drew.size); have bR6 := bR5.drew.below hb6; have bA6 := bA5.drew.below hb6; have bB6 := bB5.drew.below hb6; have y60 := bA6.cell 0; have y61 := bA6.cell 1; have y62 := bA6.cell 2; have y63 := bB6.cell 0; have y64 := bB6.cell 1; have y65 := bB6.cell 2; simp only [List.getElem?_toArray, List.getElem?_cons_zero, List.getElem?_cons_succ] at y60 y61 y62 y63 y64 y65; have l6 := big_len (n := 4) hn6 hz6 (numZ_pw a.k ha).1 (numZ_pw a.k ha).2)
    | (go_at_call 46; have hC := number_f2 b.k b.i b.s w6 hb.1 hb.2; (with_reducible refine hC.mono ?_); clear hC; rintro e w7 ⟨m7, v7, L7, rfl, hd7, hn7, hz7, hs7, hb7⟩; obtain ⟨A7, c7, rfl, _, _⟩ := DigV.open hd7.1; have h7 : Below w.heap.size w w7 := h6.trans (hb7.mono h6.size); have bR7 := bR6.below hb7; have bA7 := bA6.below hb7; have bB7 := bB6.below hb7; have y70 := bA7.cell 0; have y71 := bA7.cell 1; have y72 := bA7.cell 2; have y73 := bB7.cell 0; have y74 := bB7.cell 1; have y75 := bB7.cell 2; simp only [List.getElem?_toArray, List.getElem?_cons_zero, List.getElem?_cons_succ] at y70 y71 y72 y73 y74 y75; have l7 := big_len (n := 4) hn7 hz7 (numZ_pw b.k hb).1 (numZ_pw b.k hb).2)
    | (go_at_call 45; have hC := order_f m6 m7 _ _ L6 L7 w7 (hd6.1.below hb7) hd7.1 hn6 hn7 (by omega) hs6 hs7 _ _ hz6 hz7; (with_reducible refine hC.mono ?_); clear hC; rintro e w8 ⟨rfl, hb8⟩; have h8 : Below w.heap.size w w8 := h7.trans (hb8.mono h7.size); have bR8 := bR7.below hb8; have bA8 := bA7.below hb8; have bB8 := bB7.below hb8; have y80 := bA8.cell 0; have y81 := bA8.cell 1; have y82 := bA8.cell 2; have y83 := bB8.cell 0; have y84 := bB8.cell 1; have y85 := bB8.cell 2; simp only [List.getElem?_toArray, List.getElem?_cons_zero, List.getElem?_cons_succ] at y80 y81 y82 y83 y84 y85; rw [show ordI (numZ a.k a.i) (numZ b.k b.i) = n from HN.out])))
  go_step
  go_step
  go_wp2_with (go_at_call 11; (with_reducible refine (refBool_any _ _).mono ?_); rintro e w9 ⟨rfl, hb9⟩; have h9 : Below w.heap.size w w9 := h8.trans (hb9.mono h8.size); have bR9 := bR8.below hb9; have r0 := bR9.cell 0; have r1 := bR9.cell 1; have r2 := bR9.cell 2; have f0 := bR9.frozen 0; have f1 := bR9.frozen 1; have f2 := bR9.frozen 2; simp only [List.getElem?_toArray, List.getElem?_cons_zero, List.getElem?_cons_succ] at r0 r1 r2)
  refine bodyPost_ret ?_ rfl ⟨rfl, ?_⟩
  · simp [results, Tryz.results24, go_sem, r0, r1, r2, holdsB]
  · exact (((h9.setCell (by simp; try omega) _).setCell (by simp; try omega) _).setCell (by simp; try omega) _)
set_option maxRecDepth 100000 in
set_option maxHeartbeats 8000000 in
theorem cmp_num_11 (a b : Dat) (v : Value) (w : World) (hv : DatV w v [a, b]) (ha : InI a) (hb : InI b) (h1 : a.k ≠ 0) (h2 : b.k ≠ 0) (ho : onlyR 2 3 [a, b] = true) (n : Int) (hn : cmpZ a b = n) :
    Calls Tryz.prog 24 #[.int .i64 11, v] w (ResT (1, bitOf (holdsB 11 n), 0) w) := by
  have HO := Lib.hid (fun w' (hb : Below w.heap.size w w') => only_any 2 3 [a, b] v w' (hv.below hb))
  obtain ⟨p, off, c, rfl, hc, hbl, ⟨x0, x1, x2⟩, x3, x4, x5⟩ := hv.two
  have hb0 := (Below.refl w.heap.size w).alloc (Nat.le_refl _) (.cells #[.int .i64 0, .int .i64 0, .string noText] 27)
  have hx : At3 w p off a := ⟨x0, x1, x2⟩
  have hy : At3 w p (off + 3) b := ⟨x3, x4, x5⟩
  clear hv x0 x1 x2 x3 x4 x5
  obtain ⟨x0, x1, x2⟩ := hx.below hbl hb0
  have hq := fun (o : Obj) => hy.below hbl (hb0.alloc hb0.size o)
  have x3 := fun o => (hq o).1
  have x4 := fun o => (hq o).2.1
  have x5 := fun o => (hq o).2.2
  clear hq hx hy
  obtain ⟨W, hW⟩ : ∃ W, ((w.alloc (.cells #[.int .i64 0, .int .i64 0, .string noText] 27)).alloc (.cells #[.int .i64 a.k, .int .i64 a.i, .string a.s] 27)).alloc (.cells #[.int .i64 b.k, .int .i64 b.i, .string b.s] 27) = W := ⟨_, rfl⟩
  have hb3 : Below w.heap.size w W := by
    rw [← hW]
    exact (hb0.alloc (by simp) _).alloc (by simp; omega) _
  have bR : Blk W w.heap.size #[.int .i64 0, .int .i64 0, .string noText] 27 := by
    rw [← hW]
    exact ((Blk.new w _ _).alloc _).alloc _
  have bA : Blk W (w.heap.size + 1) #[.int .i64 a.k, .int .i64 a.i, .string a.s] 27 := by
    rw [← hW]
    exact (Blk.atB (by simp)).alloc _
  have bB : Blk W (w.heap.size + 1 + 1) #[.int .i64 b.k, .int .i64 b.i, .string b.s] 27 := by
    rw [← hW]
    exact Blk.atB (by simp)
  have HW := Lib.hid hW
  clear hW
  have H1 := Lib.hid h1
  have H2 := Lib.hid h2
  clear h1 h2
  rw [ho] at HO
  have HN := Lib.hid hn
  unfold InI at ha hb
  clear ho hn
  go_enter Tryz.func24, Tryz.ntmps24
  go_upto_region 3 with fail
  rw [HW.out]
  clear x0 x1 x2 x3 x4 x5
  have y0 := bA.cell 0
  have y1 := bA.cell 1
  have y2 := bA.cell 2
  have y3 := bB.cell 0
  have y4 := bB.cell 1
  have y5 := bB.cell 2
  simp only [List.getElem?_toArray, List.getElem?_cons_zero, List.getElem?_cons_succ] at y0 y1 y2 y3 y4 y5
  have h1 : (a.k == 0) = false := by simpa using H1.out
  have h2 : (b.k == 0) = false := by simpa using H2.out
  go_wp2_with (first
    | (go_at_call 25; have hC := HO.out _ hb3; (with_reducible refine hC.mono ?_); clear hC; rintro e w4 ⟨rfl, hb4⟩; have h4 : Below w.heap.size w w4 := hb3.trans (hb4.mono hb3.size); have bR4 := bR.below hb4; have bA4 := bA.below hb4; have bB4 := bB.below hb4; have y40 := bA4.cell 0; have y41 := bA4.cell 1; have y42 := bA4.cell 2; have y43 := bB4.cell 0; have y44 := bB4.cell 1; have y45 := bB4.cell 2; simp only [List.getElem?_toArray, List.getElem?_cons_zero, List.getElem?_cons_succ] at y40 y41 y42 y43 y44 y45)
    | (go_at_call 44; have hC := refCmp_any a.k a.i a.s b.k b.i b.s w4; (with_reducible refine hC.mono ?_); clear hC; rintro e w5 ⟨rfl, hb5⟩; have h5 : Below w.heap.size w w5 := h4.trans (hb5.mono h4.size); have bR5 := bR4.below hb5; have bA5 := bA4.below hb5; have bB5 := bB4.below hb5; have y50 := bA5.cell 0; have y51 := bA5.cell 1; have y52 := bA5.cell 2; have y53 := bB5.cell 0; have y54 := bB5.cell 1; have y55 := bB5.cell 2; simp only [List.getElem?_toArray, List.getElem?_cons_zero, List.getElem?_cons_succ] at y50 y51 y52 y53 y54 y55))
  go_region_held3 (fun w' => w'.cell? ⟨w.heap.size + 1, 0, none⟩ = some (.int .i64 a.k) ∧ w'.cell? ⟨w.heap.size + 1, 1, none⟩ = some (.int .i64 a.i) ∧ w'.cell? ⟨w.heap.size + 1, 2, none⟩ = some (.string a.s) ∧ w'.cell? ⟨w.heap.size + 1 + 1, 0, none⟩ = some (.int .i64 b.k) ∧ w'.cell? ⟨w.heap.size + 1 + 1, 1, none⟩ = some (.int .i64 b.i) ∧ w'.cell? ⟨w.heap.size + 1 + 1, 2, none⟩ = some (.string b.s)) (first | exact ⟨y50, y51, y52, y53, y54, y55⟩ | exact ⟨y80, y81, y82, y83, y84, y85⟩ | exact ⟨y70, y71, y72, y73, y74, y75⟩ | exact ⟨y60, y61, y62, y63, y64, y65⟩) ((first
    | (go_at_call 46; have hC := number_f2 a.k a.i a.s w5.drew ha.1 ha.2; (with_reducible refine hC.mono ?_); clear hC; rintro e w6 ⟨m6, v6, L6, rfl, hd6, hn6, hz6, hs6, hb6⟩; obtain ⟨A6, c6, rfl, _, _⟩ := DigV.open hd6.1; have h6 : Below w.heap.size w w6 := h5.drew.trans (hb6.mono h5.drew.size); have bR6 := bR5.drew.below hb6; have bA6 := bA5.drew.below hb6; have bB6 := bB5.drew.below hb6; have y60 := bA6.cell 0; have y61 := bA6.cell 1; have y62 := bA6.cell 2; have y63 := bB6.cell 0; have y64 := bB6.cell 1; have y65 := bB6.cell 2; simp only [List.getElem?_toArray, List.getElem?_cons_zero, List.getElem?_cons_succ] at y60 y61 y62 y63 y64 y65; have l6 := big_len (n := 4) hn6 hz6 (numZ_pw a.k ha).1 (numZ_pw a.k ha).2)
    | (go_at_call 46; have hC := number_f2 b.k b.i b.s w6 hb.1 hb.2; (with_reducible refine hC.mono ?_); clear hC; rintro e w7 ⟨m7, v7, L7, rfl, hd7, hn7, hz7, hs7, hb7⟩; obtain ⟨A7, c7, rfl, _, _⟩ := DigV.open hd7.1; have h7 : Below w.heap.size w w7 := h6.trans (hb7.mono h6.size); have bR7 := bR6.below hb7; have bA7 := bA6.below hb7; have bB7 := bB6.below hb7; have y70 := bA7.cell 0; have y71 := bA7.cell 1; have y72 := bA7.cell 2; have y73 := bB7.cell 0; have y74 := bB7.cell 1; have y75 := bB7.cell 2; simp only [List.getElem?_toArray, List.getElem?_cons_zero, List.getElem?_cons_succ] at y70 y71 y72 y73 y74 y75; have l7 := big_len (n := 4) hn7 hz7 (numZ_pw b.k hb).1 (numZ_pw b.k hb).2)
    | (go_at_call 45; have hC := order_f m6 m7 _ _ L6 L7 w7 (hd6.1.below hb7) hd7.1 hn6 hn7 (by omega) hs6 hs7 _ _ hz6 hz7; (with_reducible refine hC.mono ?_); clear hC; rintro e w8 ⟨rfl, hb8⟩; have h8 : Below w.heap.size w w8 := h7.trans (hb8.mono h7.size); have bR8 := bR7.below hb8; have bA8 := bA7.below hb8; have bB8 := bB7.below hb8; have y80 := bA8.cell 0; have y81 := bA8.cell 1; have y82 := bA8.cell 2; have y83 := bB8.cell 0; have y84 := bB8.cell 1; have y85 := bB8.cell 2; simp only [List.getElem?_toArray, List.getElem?_cons_zero, List.getElem?_cons_succ] at y80 y81 y82 y83 y84 y85; rw [show ordI (numZ a.k a.i) (numZ b.k b.i) = n from HN.out])))
  go_step
  go_step
  go_wp2_with (go_at_call 11; (with_reducible refine (refBool_any _ _).mono ?_); rintro e w9 ⟨rfl, hb9⟩; have h9 : Below w.heap.size w w9 := h8.trans (hb9.mono h8.size); have bR9 := bR8.below hb9; have r0 := bR9.cell 0; have r1 := bR9.cell 1; have r2 := bR9.cell 2; have f0 := bR9.frozen 0; have f1 := bR9.frozen 1; have f2 := bR9.frozen 2; simp only [List.getElem?_toArray, List.getElem?_cons_zero, List.getElem?_cons_succ] at r0 r1 r2)
  refine bodyPost_ret ?_ rfl ⟨rfl, ?_⟩
  · simp [results, Tryz.results24, go_sem, r0, r1, r2, holdsB]
  · exact (((h9.setCell (by simp; try omega) _).setCell (by simp; try omega) _).setCell (by simp; try omega) _)
set_option maxRecDepth 100000 in
set_option maxHeartbeats 8000000 in
theorem cmp_num_12 (a b : Dat) (v : Value) (w : World) (hv : DatV w v [a, b]) (ha : InI a) (hb : InI b) (h1 : a.k ≠ 0) (h2 : b.k ≠ 0) (ho : onlyR 2 3 [a, b] = true) (n : Int) (hn : cmpZ a b = n) :
    Calls Tryz.prog 24 #[.int .i64 12, v] w (ResT (1, bitOf (holdsB 12 n), 0) w) := by
  have HO := Lib.hid (fun w' (hb : Below w.heap.size w w') => only_any 2 3 [a, b] v w' (hv.below hb))
  obtain ⟨p, off, c, rfl, hc, hbl, ⟨x0, x1, x2⟩, x3, x4, x5⟩ := hv.two
  have hb0 := (Below.refl w.heap.size w).alloc (Nat.le_refl _) (.cells #[.int .i64 0, .int .i64 0, .string noText] 27)
  have hx : At3 w p off a := ⟨x0, x1, x2⟩
  have hy : At3 w p (off + 3) b := ⟨x3, x4, x5⟩
  clear hv x0 x1 x2 x3 x4 x5
  obtain ⟨x0, x1, x2⟩ := hx.below hbl hb0
  have hq := fun (o : Obj) => hy.below hbl (hb0.alloc hb0.size o)
  have x3 := fun o => (hq o).1
  have x4 := fun o => (hq o).2.1
  have x5 := fun o => (hq o).2.2
  clear hq hx hy
  obtain ⟨W, hW⟩ : ∃ W, ((w.alloc (.cells #[.int .i64 0, .int .i64 0, .string noText] 27)).alloc (.cells #[.int .i64 a.k, .int .i64 a.i, .string a.s] 27)).alloc (.cells #[.int .i64 b.k, .int .i64 b.i, .string b.s] 27) = W := ⟨_, rfl⟩
  have hb3 : Below w.heap.size w W := by
    rw [← hW]
    exact (hb0.alloc (by simp) _).alloc (by simp; omega) _
  have bR : Blk W w.heap.size #[.int .i64 0, .int .i64 0, .string noText] 27 := by
    rw [← hW]
    exact ((Blk.new w _ _).alloc _).alloc _
  have bA : Blk W (w.heap.size + 1) #[.int .i64 a.k, .int .i64 a.i, .string a.s] 27 := by
    rw [← hW]
    exact (Blk.atB (by simp)).alloc _
  have bB : Blk W (w.heap.size + 1 + 1) #[.int .i64 b.k, .int .i64 b.i, .string b.s] 27 := by
    rw [← hW]
    exact Blk.atB (by simp)
  have HW := Lib.hid hW
  clear hW
  have H1 := Lib.hid h1
  have H2 := Lib.hid h2
  clear h1 h2
  rw [ho] at HO
  have HN := Lib.hid hn
  unfold InI at ha hb
  clear ho hn
  go_enter Tryz.func24, Tryz.ntmps24
  go_upto_region 3 with fail
  rw [HW.out]
  clear x0 x1 x2 x3 x4 x5
  have y0 := bA.cell 0
  have y1 := bA.cell 1
  have y2 := bA.cell 2
  have y3 := bB.cell 0
  have y4 := bB.cell 1
  have y5 := bB.cell 2
  simp only [List.getElem?_toArray, List.getElem?_cons_zero, List.getElem?_cons_succ] at y0 y1 y2 y3 y4 y5
  have h1 : (a.k == 0) = false := by simpa using H1.out
  have h2 : (b.k == 0) = false := by simpa using H2.out
  go_wp2_with (first
    | (go_at_call 25; have hC := HO.out _ hb3; (with_reducible refine hC.mono ?_); clear hC; rintro e w4 ⟨rfl, hb4⟩; have h4 : Below w.heap.size w w4 := hb3.trans (hb4.mono hb3.size); have bR4 := bR.below hb4; have bA4 := bA.below hb4; have bB4 := bB.below hb4; have y40 := bA4.cell 0; have y41 := bA4.cell 1; have y42 := bA4.cell 2; have y43 := bB4.cell 0; have y44 := bB4.cell 1; have y45 := bB4.cell 2; simp only [List.getElem?_toArray, List.getElem?_cons_zero, List.getElem?_cons_succ] at y40 y41 y42 y43 y44 y45)
    | (go_at_call 44; have hC := refCmp_any a.k a.i a.s b.k b.i b.s w4; (with_reducible refine hC.mono ?_); clear hC; rintro e w5 ⟨rfl, hb5⟩; have h5 : Below w.heap.size w w5 := h4.trans (hb5.mono h4.size); have bR5 := bR4.below hb5; have bA5 := bA4.below hb5; have bB5 := bB4.below hb5; have y50 := bA5.cell 0; have y51 := bA5.cell 1; have y52 := bA5.cell 2; have y53 := bB5.cell 0; have y54 := bB5.cell 1; have y55 := bB5.cell 2; simp only [List.getElem?_toArray, List.getElem?_cons_zero, List.getElem?_cons_succ] at y50 y51 y52 y53 y54 y55))
  go_region_held3 (fun w' => w'.cell? ⟨w.heap.size + 1, 0, none⟩ = some (.int .i64 a.k) ∧ w'.cell? ⟨w.heap.size + 1, 1, none⟩ = some (.int .i64 a.i) ∧ w'.cell? ⟨w.heap.size + 1, 2, none⟩ = some (.string a.s) ∧ w'.cell? ⟨w.heap.size + 1 + 1, 0, none⟩ = some (.int .i64 b.k) ∧ w'.cell? ⟨w.heap.size + 1 + 1, 1, none⟩ = some (.int .i64 b.i) ∧ w'.cell? ⟨w.heap.size + 1 + 1, 2, none⟩ = some (.string b.s)) (first | exact ⟨y50, y51, y52, y53, y54, y55⟩ | exact ⟨y80, y81, y82, y83, y84, y85⟩ | exact ⟨y70, y71, y72, y73, y74, y75⟩ | exact ⟨y60, y61, y62, y63, y64, y65⟩) ((first
    | (go_at_call 46; have hC := number_f2 a.k a.i a.s w5.drew ha.1 ha.2; (with_reducible refine hC.mono ?_); clear hC; rintro e w6 ⟨m6, v6, L6, rfl, hd6, hn6, hz6, hs6, hb6⟩; obtain ⟨A6, c6, rfl, _, _⟩ := DigV.open hd6.1; have h6 : Below w.heap.size w w6 := h5.drew.trans (hb6.mono h5.drew.size); have bR6 := bR5.drew.below hb6; have bA6 := bA5.drew.below hb6; have bB6 := bB5.drew.below hb6; have y60 := bA6.cell 0; have y61 := bA6.cell 1; have y62 := bA6.cell 2; have y63 := bB6.cell 0; have y64 := bB6.cell 1; have y65 := bB6.cell 2; simp only [List.getElem?_toArray, List.getElem?_cons_zero, List.getElem?_cons_succ] at y60 y61 y62 y63 y64 y65; have l6 := big_len (n := 4) hn6 hz6 (numZ_pw a.k ha).1 (numZ_pw a.k ha).2)
    | (go_at_call 46; have hC := number_f2 b.k b.i b.s w6 hb.1 hb.2; (with_reducible refine hC.mono ?_); clear hC; rintro e w7 ⟨m7, v7, L7, rfl, hd7, hn7, hz7, hs7, hb7⟩; obtain ⟨A7, c7, rfl, _, _⟩ := DigV.open hd7.1; have h7 : Below w.heap.size w w7 := h6.trans (hb7.mono h6.size); have bR7 := bR6.below hb7; have bA7 := bA6.below hb7; have bB7 := bB6.below hb7; have y70 := bA7.cell 0; have y71 := bA7.cell 1; have y72 := bA7.cell 2; have y73 := bB7.cell 0; have y74 := bB7.cell 1; have y75 := bB7.cell 2; simp only [List.getElem?_toArray, List.getElem?_cons_zero, List.getElem?_cons_succ] at y70 y71 y72 y73 y74 y75; have l7 := big_len (n := 4) hn7 hz7 (numZ_pw b.k hb).1 (numZ_pw b.k hb).2)
    | (go_at_call 45; have hC := order_f m6 m7 _ _ L6 L7 w7 (hd6.1.below hb7) hd7.1 hn6 hn7 (by omega) hs6 hs7 _ _ hz6 hz7; (with_reducible refine hC.mono ?_); clear hC; rintro e w8 ⟨rfl, hb8⟩; have h8 : Below w.heap.size w w8 := h7.trans (hb8.mono h7.size); have bR8 := bR7.below hb8; have bA8 := bA7.below hb8; have bB8 := bB7.below hb8; have y80 := bA8.cell 0; have y81 := bA8.cell 1; have y82 := bA8.cell 2; have y83 := bB8.cell 0; have y84 := bB8.cell 1; have y85 := bB8.cell 2; simp only [List.getElem?_toArray, List.getElem?_cons_zero, List.getElem?_cons_succ] at y80 y81 y82 y83 y84 y85; rw [show ordI (numZ a.k a.i) (numZ b.k b.i) = n from HN.out])))
  go_step
  go_step
  go_wp2_with (go_at_call 11; (with_reducible refine (refBool_any _ _).mono ?_); rintro e w9 ⟨rfl, hb9⟩; have h9 : Below w.heap.size w w9 := h8.trans (hb9.mono h8.size); have bR9 := bR8.below hb9; have r0 := bR9.cell 0; have r1 := bR9.cell 1; have r2 := bR9.cell 2; have f0 := bR9.frozen 0; have f1 := bR9.frozen 1; have f2 := bR9.frozen 2; simp only [List.getElem?_toArray, List.getElem?_cons_zero, List.getElem?_cons_succ] at r0 r1 r2)
  refine bodyPost_ret ?_ rfl ⟨rfl, ?_⟩
  · simp [results, Tryz.results24, go_sem, r0, r1, r2, holdsB]
  · exact (((h9.setCell (by simp; try omega) _).setCell (by simp; try omega) _).setCell (by simp; try omega) _)

end Go.Proofs.YtippffjhkinfoaaGreatDoor
