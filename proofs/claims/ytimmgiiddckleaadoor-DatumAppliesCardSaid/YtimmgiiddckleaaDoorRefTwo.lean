/-
  The reference's four operations on two numbers of one kind.
-/
import Derived.Test.YtimmgiiddckleaaDoorRefAr
import Derived.Deep.RegionHeld3
import Derived.Deep.Cut
namespace Go.Proofs.YtimmgiiddckleaaDoor
open Go.RowKit

theorem zOf_nil {m : Bool} {L : List Int} (h : Norm L) (hz : zOf m L = 0) : L.length = 0 := by
  rcases Nat.eq_zero_or_pos L.length with q | q
  · exact q
  · have h1 := h.low 0 q
    have e : pw 0 = 1 := rfl
    unfold zOf at hz
    cases m
    · have : valD L = 0 := hz
      omega
    · have : -valD L = 0 := hz
      omega
theorem zOf_some {m : Bool} {L : List Int} (hz : zOf m L ≠ 0) : 0 < L.length := by
  cases L with
  | nil => exact absurd (by cases m <;> rfl) hz
  | cons x t => simp
theorem inz_unit {a : Int} (h0 : 0 < a) (h1 : a ≤ 10000) : InZ a := by unfold InZ; omega

set_option maxRecDepth 100000 in
set_option maxHeartbeats 8000000 in
theorem two_add (kind unit z1 z2 : Int) (m1 m2 : Bool) (v1 v2 : Value) (L1 L2 : List Int) (w : World) (h1 : DigV w v1 L1) (h2 : DigV w v2 L2) (n1 : Norm L1) (n2 : Norm L2) (e1 : zOf m1 L1 = z1) (e2 : zOf m2 L2 = z2) (b1 : InZ z1) (b2 : InZ z2) :
    Calls Tryd.prog 59 #[.int .i64 3, .int .i64 kind, .agg #[.bool m1, v1], .agg #[.bool m2, v2], .int .i64 unit] w (FitRes kind (z1 + z2) w) := by
  have l1 := big_len n1 e1 (inz_pw b1).1 (inz_pw b1).2
  have l2 := big_len n2 e2 (inz_pw b2).1 (inz_pw b2).2
  obtain ⟨A1, c1, rfl, _, _⟩ := DigV.open h1
  obtain ⟨A2, c2, rfl, _, _⟩ := DigV.open h2
  have D1 := Lib.hid h1
  have D2 := Lib.hid h2
  have N1 := Lib.hid n1
  have N2 := Lib.hid n2
  have E1 := Lib.hid e1
  have E2 := Lib.hid e2
  have B1 := Lib.hid b1
  have B2 := Lib.hid b2
  clear h1 h2 n1 n2 e1 e2 b1 b2
  obtain ⟨W, hW⟩ : ∃ W, ((w.alloc (Obj.cells #[.bool m1, .slice A1 L1.length c1] 74)).alloc (Obj.cells #[.bool m2, .slice A2 L2.length c2] 74)).alloc (Obj.cells #[.int .i64 0, .int .i64 0, .string noText] 24) = W := ⟨_, rfl⟩
  have hb3 : Below w.heap.size w W := by
    rw [← hW]
    exact (((Below.refl w.heap.size w).alloc (Nat.le_refl _) _).alloc (by simp) _).alloc (by simp; omega) _
  have bA : Blk W w.heap.size #[.bool m1, .slice A1 L1.length c1] 74 := by
    rw [← hW]
    exact ((Blk.new w _ _).alloc _).alloc _
  have bB : Blk W (w.heap.size + 1) #[.bool m2, .slice A2 L2.length c2] 74 := by
    rw [← hW]
    exact (Blk.atB (by simp)).alloc _
  have bR : Blk W (w.heap.size + 1 + 1) #[.int .i64 0, .int .i64 0, .string noText] 24 := by
    rw [← hW]
    exact Blk.atB (by simp)
  have HW := Lib.hid hW
  clear hW
  have y0 := bA.cell 0
  have y1 := bA.cell 1
  have y2 := bB.cell 0
  have y3 := bB.cell 1
  simp only [List.getElem?_toArray, List.getElem?_cons_zero, List.getElem?_cons_succ] at y0 y1 y2 y3
  go_enter Tryd.func59, Tryd.ntmps59
  go_upto_region 1 with fail
  rw [HW.out]
  go_wp2_with (first
    | (go_at_call 78; have hC := big_plus m1 m2 _ _ L1 L2 W (D1.out.below hb3) (D2.out.below hb3) N1.out N2.out (by omega) (by omega) _ _ E1.out E2.out; (with_reducible refine hC.mono ?_); clear hC; rintro e w4 ⟨m4, v4, L4, rfl, hd4, hn4, hz4, hb4⟩; obtain ⟨A4, c4, rfl, _, _⟩ := DigV.open hd4.1; have h4 : Below w.heap.size w w4 := hb3.trans (hb4.mono hb3.size); have bR4 := bR.below hb4; have l4 := big_len hn4 hz4 (inz_sum B1.out B2.out).1 (inz_sum B1.out B2.out).2)
    | (go_at_call 55; have hC := fits_f m4 _ L4 w4 hd4.1 hn4 (by omega) _ hz4; (with_reducible refine hC.mono ?_); clear hC; rintro e w5 ⟨rfl, hb5⟩; have h5 : Below w.heap.size w w5 := h4.trans (hb5.mono h4.size); have bR5 := bR4.below hb5)
    | (go_at_call 56; have hC := result_f kind (z1 + z2) w5; (with_reducible refine hC.mono ?_); clear hC; rintro e w6 ⟨rfl, hb6⟩; have h6 : Below w.heap.size w w6 := h5.trans (hb6.mono h5.size); have bR6 := bR5.below hb6; have r0 := bR6.cell 0; have r1 := bR6.cell 1; have r2 := bR6.cell 2; have f0 := bR6.frozen 0; have f1 := bR6.frozen 1; have f2 := bR6.frozen 2; simp only [List.getElem?_toArray, List.getElem?_cons_zero, List.getElem?_cons_succ] at r0 r1 r2))
  refine bodyPost_ret ?_ rfl ⟨rfl, ?_⟩
  · simp [results, Tryd.results59, go_sem, r0, r1, r2]
  · exact (((h6.setCell (by simp; try omega) _).setCell (by simp; try omega) _).setCell (by simp; try omega) _)

set_option maxRecDepth 100000 in
set_option maxHeartbeats 8000000 in
theorem two_sub (kind unit z1 z2 : Int) (m1 m2 : Bool) (v1 v2 : Value) (L1 L2 : List Int) (w : World) (h1 : DigV w v1 L1) (h2 : DigV w v2 L2) (n1 : Norm L1) (n2 : Norm L2) (e1 : zOf m1 L1 = z1) (e2 : zOf m2 L2 = z2) (b1 : InZ z1) (b2 : InZ z2) :
    Calls Tryd.prog 59 #[.int .i64 4, .int .i64 kind, .agg #[.bool m1, v1], .agg #[.bool m2, v2], .int .i64 unit] w (FitRes kind (z1 + -z2) w) := by
  have l1 := big_len n1 e1 (inz_pw b1).1 (inz_pw b1).2
  have l2 := big_len n2 e2 (inz_pw b2).1 (inz_pw b2).2
  obtain ⟨A1, c1, rfl, _, _⟩ := DigV.open h1
  obtain ⟨A2, c2, rfl, _, _⟩ := DigV.open h2
  have D1 := Lib.hid h1
  have D2 := Lib.hid h2
  have N1 := Lib.hid n1
  have N2 := Lib.hid n2
  have E1 := Lib.hid e1
  have E2 := Lib.hid e2
  have B1 := Lib.hid b1
  have B2 := Lib.hid b2
  clear h1 h2 n1 n2 e1 e2 b1 b2
  obtain ⟨W, hW⟩ : ∃ W, ((w.alloc (Obj.cells #[.bool m1, .slice A1 L1.length c1] 74)).alloc (Obj.cells #[.bool m2, .slice A2 L2.length c2] 74)).alloc (Obj.cells #[.int .i64 0, .int .i64 0, .string noText] 24) = W := ⟨_, rfl⟩
  have hb3 : Below w.heap.size w W := by
    rw [← hW]
    exact (((Below.refl w.heap.size w).alloc (Nat.le_refl _) _).alloc (by simp) _).alloc (by simp; omega) _
  have bA : Blk W w.heap.size #[.bool m1, .slice A1 L1.length c1] 74 := by
    rw [← hW]
    exact ((Blk.new w _ _).alloc _).alloc _
  have bB : Blk W (w.heap.size + 1) #[.bool m2, .slice A2 L2.length c2] 74 := by
    rw [← hW]
    exact (Blk.atB (by simp)).alloc _
  have bR : Blk W (w.heap.size + 1 + 1) #[.int .i64 0, .int .i64 0, .string noText] 24 := by
    rw [← hW]
    exact Blk.atB (by simp)
  have HW := Lib.hid hW
  clear hW
  have y0 := bA.cell 0
  have y1 := bA.cell 1
  have y2 := bB.cell 0
  have y3 := bB.cell 1
  simp only [List.getElem?_toArray, List.getElem?_cons_zero, List.getElem?_cons_succ] at y0 y1 y2 y3
  go_enter Tryd.func59, Tryd.ntmps59
  go_upto_region 1 with fail
  rw [HW.out]
  go_wp2_with fail
  go_region_held3 (fun w' => w'.cell? ⟨w.heap.size, 0, none⟩ = some (.bool m1) ∧ w'.cell? ⟨w.heap.size, 1, none⟩ = some (.slice A1 L1.length c1) ∧ w'.cell? ⟨w.heap.size + 1, 0, none⟩ = some (.bool m2) ∧ w'.cell? ⟨w.heap.size + 1, 1, none⟩ = some (.slice A2 L2.length c2)) (first | exact ⟨y60, y61, y62, y63⟩ | exact ⟨y50, y51, y52, y53⟩ | exact ⟨y40, y41, y42, y43⟩ | exact ⟨y0, y1, y2, y3⟩) ((first
    | (go_at_call 57; have hC := big_minus m2 _ L2 W.drew (D2.out.below hb3.drew) _ E2.out; (with_reducible refine hC.mono ?_); clear hC; rintro e w4 ⟨m4, rfl, hz4, hb4⟩; have h4 : Below w.heap.size w w4 := hb3.drew.trans (hb4.mono hb3.drew.size); have bR4 := bR.drew.below hb4; have bA4 := bA.drew.below hb4; have bB4 := bB.drew.below hb4; have y40 := bA4.cell 0; have y41 := bA4.cell 1; have y42 := bB4.cell 0; have y43 := bB4.cell 1; simp only [List.getElem?_toArray, List.getElem?_cons_zero, List.getElem?_cons_succ] at y40 y41 y42 y43)
    | (go_at_call 78; have hC := big_plus m1 m4 _ _ L1 L2 w4 (D1.out.below h4) (D2.out.below h4) N1.out N2.out (by omega) (by omega) _ _ E1.out hz4; (with_reducible refine hC.mono ?_); clear hC; rintro e w5 ⟨m5, v5, L5, rfl, hd5, hn5, hz5, hb5⟩; obtain ⟨A5, c5, rfl, _, _⟩ := DigV.open hd5.1; have h5 : Below w.heap.size w w5 := h4.trans (hb5.mono h4.size); have bR5 := bR4.below hb5; have bA5 := bA4.below hb5; have bB5 := bB4.below hb5; have y50 := bA5.cell 0; have y51 := bA5.cell 1; have y52 := bB5.cell 0; have y53 := bB5.cell 1; simp only [List.getElem?_toArray, List.getElem?_cons_zero, List.getElem?_cons_succ] at y50 y51 y52 y53; have l5 := big_len hn5 hz5 (inz_sum B1.out (inz_neg B2.out)).1 (inz_sum B1.out (inz_neg B2.out)).2)
    | (go_at_call 55; have hC := fits_f m5 _ L5 w5 hd5.1 hn5 (by omega) _ hz5; (with_reducible refine hC.mono ?_); clear hC; rintro e w6 ⟨rfl, hb6⟩; have h6 : Below w.heap.size w w6 := h5.trans (hb6.mono h5.size); have bR6 := bR5.below hb6; have bA6 := bA5.below hb6; have bB6 := bB5.below hb6; have y60 := bA6.cell 0; have y61 := bA6.cell 1; have y62 := bB6.cell 0; have y63 := bB6.cell 1; simp only [List.getElem?_toArray, List.getElem?_cons_zero, List.getElem?_cons_succ] at y60 y61 y62 y63)))
  go_step
  go_step
  go_wp2_with (go_at_call 56; have hC := result_f kind (z1 + -z2) w6; (with_reducible refine hC.mono ?_); clear hC; rintro e w7 ⟨rfl, hb7⟩; have h7 : Below w.heap.size w w7 := h6.trans (hb7.mono h6.size); have bR7 := bR6.below hb7; have r0 := bR7.cell 0; have r1 := bR7.cell 1; have r2 := bR7.cell 2; have f0 := bR7.frozen 0; have f1 := bR7.frozen 1; have f2 := bR7.frozen 2; simp only [List.getElem?_toArray, List.getElem?_cons_zero, List.getElem?_cons_succ] at r0 r1 r2)
  refine bodyPost_ret ?_ rfl ⟨rfl, ?_⟩
  · simp [results, Tryd.results59, go_sem, r0, r1, r2]
  · exact (((h7.setCell (by simp; try omega) _).setCell (by simp; try omega) _).setCell (by simp; try omega) _)

set_option maxRecDepth 100000 in
set_option maxHeartbeats 8000000 in
theorem two_mul (kind unit z1 z2 : Int) (m1 m2 : Bool) (v1 v2 : Value) (L1 L2 : List Int) (w : World) (h1 : DigV w v1 L1) (h2 : DigV w v2 L2) (n1 : Norm L1) (n2 : Norm L2) (e1 : zOf m1 L1 = z1) (e2 : zOf m2 L2 = z2) (b1 : InZ z1) (b2 : InZ z2) (u0 : 0 < unit) (u1 : unit ≤ 10000) :
    Calls Tryd.prog 59 #[.int .i64 5, .int .i64 kind, .agg #[.bool m1, v1], .agg #[.bool m2, v2], .int .i64 unit] w (FitRes kind ((z1 * z2).tdiv unit) w) := by
  have l1 := big_len n1 e1 (inz_pw b1).1 (inz_pw b1).2
  have l2 := big_len n2 e2 (inz_pw b2).1 (inz_pw b2).2
  obtain ⟨A1, c1, rfl, _, _⟩ := DigV.open h1
  obtain ⟨A2, c2, rfl, _, _⟩ := DigV.open h2
  have D1 := Lib.hid h1
  have D2 := Lib.hid h2
  have N1 := Lib.hid n1
  have N2 := Lib.hid n2
  have E1 := Lib.hid e1
  have E2 := Lib.hid e2
  have B1 := Lib.hid b1
  have B2 := Lib.hid b2
  clear h1 h2 n1 n2 e1 e2 b1 b2
  obtain ⟨W, hW⟩ : ∃ W, ((w.alloc (Obj.cells #[.bool m1, .slice A1 L1.length c1] 74)).alloc (Obj.cells #[.bool m2, .slice A2 L2.length c2] 74)).alloc (Obj.cells #[.int .i64 0, .int .i64 0, .string noText] 24) = W := ⟨_, rfl⟩
  have hb3 : Below w.heap.size w W := by
    rw [← hW]
    exact (((Below.refl w.heap.size w).alloc (Nat.le_refl _) _).alloc (by simp) _).alloc (by simp; omega) _
  have bA : Blk W w.heap.size #[.bool m1, .slice A1 L1.length c1] 74 := by
    rw [← hW]
    exact ((Blk.new w _ _).alloc _).alloc _
  have bB : Blk W (w.heap.size + 1) #[.bool m2, .slice A2 L2.length c2] 74 := by
    rw [← hW]
    exact (Blk.atB (by simp)).alloc _
  have bR : Blk W (w.heap.size + 1 + 1) #[.int .i64 0, .int .i64 0, .string noText] 24 := by
    rw [← hW]
    exact Blk.atB (by simp)
  have HW := Lib.hid hW
  clear hW
  have y0 := bA.cell 0
  have y1 := bA.cell 1
  have y2 := bB.cell 0
  have y3 := bB.cell 1
  simp only [List.getElem?_toArray, List.getElem?_cons_zero, List.getElem?_cons_succ] at y0 y1 y2 y3
  go_enter Tryd.func59, Tryd.ntmps59
  go_upto_region 1 with fail
  rw [HW.out]
  go_wp2_with (first
    | (go_at_call 76; have hC := big_times m1 m2 _ _ L1 L2 W (D1.out.below hb3) (D2.out.below hb3) N1.out N2.out (by omega) _ _ E1.out E2.out; (with_reducible refine hC.mono ?_); clear hC; rintro e w4 ⟨m4, v4, L4, rfl, hd4, hn4, hz4, hb4⟩; obtain ⟨A4, c4, rfl, _, _⟩ := DigV.open hd4.1; have h4 : Below w.heap.size w w4 := hb3.trans (hb4.mono hb3.size); have bR4 := bR.below hb4; have l4 := big_len hn4 hz4 (inz_mul B1.out B2.out).1 (inz_mul B1.out B2.out).2)
    | (go_at_call 58; have hC := big_of unit w4 (by omega) (by omega); (with_reducible refine hC.mono ?_); clear hC; rintro e w5 ⟨m5, v5, L5, rfl, hd5, hn5, hz5, hb5⟩; obtain ⟨A5, c5, rfl, _, _⟩ := DigV.open hd5.1; have h5 : Below w.heap.size w w5 := h4.trans (hb5.mono h4.size); have bR5 := bR4.below hb5; have l5 := big_len hn5 hz5 (inz_pw (inz_unit u0 u1)).1 (inz_pw (inz_unit u0 u1)).2)
    | (go_at_call 79; have hC := over_f m4 m5 _ _ L4 L5 w5 (hd4.1.below hb5) hd5.1 hn4 hn5 (by omega) (by omega) _ _ hz4 hz5 (by omega); (with_reducible refine hC.mono ?_); clear hC; rintro e w6 ⟨rfl, hb6⟩; have h6 : Below w.heap.size w w6 := h5.trans (hb6.mono h5.size); have bR6 := bR5.below hb6)
    | (go_at_call 56; have hC := result_f kind ((z1 * z2).tdiv unit) w6; (with_reducible refine hC.mono ?_); clear hC; rintro e w7 ⟨rfl, hb7⟩; have h7 : Below w.heap.size w w7 := h6.trans (hb7.mono h6.size); have bR7 := bR6.below hb7; have r0 := bR7.cell 0; have r1 := bR7.cell 1; have r2 := bR7.cell 2; have f0 := bR7.frozen 0; have f1 := bR7.frozen 1; have f2 := bR7.frozen 2; simp only [List.getElem?_toArray, List.getElem?_cons_zero, List.getElem?_cons_succ] at r0 r1 r2))
  refine bodyPost_ret ?_ rfl ⟨rfl, ?_⟩
  · simp [results, Tryd.results59, go_sem, r0, r1, r2]
  · exact (((h7.setCell (by simp; try omega) _).setCell (by simp; try omega) _).setCell (by simp; try omega) _)

set_option maxRecDepth 100000 in
set_option maxHeartbeats 8000000 in
theorem two_none (kind unit z1 z2 : Int) (m1 m2 : Bool) (v1 v2 : Value) (L1 L2 : List Int) (w : World) (h1 : DigV w v1 L1) (h2 : DigV w v2 L2) (n1 : Norm L1) (n2 : Norm L2) (e1 : zOf m1 L1 = z1) (e2 : zOf m2 L2 = z2) (b1 : InZ z1) (b2 : InZ z2) (hz : z2 = 0) :
    Calls Tryd.prog 59 #[.int .i64 6, .int .i64 kind, .agg #[.bool m1, v1], .agg #[.bool m2, v2], .int .i64 unit] w (ResPost 0 0 4 w) := by
  have l1 := big_len n1 e1 (inz_pw b1).1 (inz_pw b1).2
  have l2 := big_len n2 e2 (inz_pw b2).1 (inz_pw b2).2
  obtain ⟨A1, c1, rfl, _, _⟩ := DigV.open h1
  obtain ⟨A2, c2, rfl, _, _⟩ := DigV.open h2
  have D1 := Lib.hid h1
  have D2 := Lib.hid h2
  have N1 := Lib.hid n1
  have N2 := Lib.hid n2
  have E1 := Lib.hid e1
  have E2 := Lib.hid e2
  have B1 := Lib.hid b1
  have B2 := Lib.hid b2
  have hL2 : L2.length = 0 := zOf_nil n2 (by rw [e2]; exact hz)
  have HL2 := Lib.hid hL2
  clear hL2
  clear h1 h2 n1 n2 e1 e2 b1 b2
  obtain ⟨W, hW⟩ : ∃ W, ((w.alloc (Obj.cells #[.bool m1, .slice A1 L1.length c1] 74)).alloc (Obj.cells #[.bool m2, .slice A2 L2.length c2] 74)).alloc (Obj.cells #[.int .i64 0, .int .i64 0, .string noText] 24) = W := ⟨_, rfl⟩
  have hb3 : Below w.heap.size w W := by
    rw [← hW]
    exact (((Below.refl w.heap.size w).alloc (Nat.le_refl _) _).alloc (by simp) _).alloc (by simp; omega) _
  have bA : Blk W w.heap.size #[.bool m1, .slice A1 L1.length c1] 74 := by
    rw [← hW]
    exact ((Blk.new w _ _).alloc _).alloc _
  have bB : Blk W (w.heap.size + 1) #[.bool m2, .slice A2 L2.length c2] 74 := by
    rw [← hW]
    exact (Blk.atB (by simp)).alloc _
  have bR : Blk W (w.heap.size + 1 + 1) #[.int .i64 0, .int .i64 0, .string noText] 24 := by
    rw [← hW]
    exact Blk.atB (by simp)
  have HW := Lib.hid hW
  clear hW
  have y0 := bA.cell 0
  have y1 := bA.cell 1
  have y2 := bB.cell 0
  have y3 := bB.cell 1
  simp only [List.getElem?_toArray, List.getElem?_cons_zero, List.getElem?_cons_succ] at y0 y1 y2 y3
  go_enter Tryd.func59, Tryd.ntmps59
  go_upto_region 1 with fail
  rw [HW.out]
  have hL2 := HL2.out
  have f0 := bR.frozen 0
  have f1 := bR.frozen 1
  have f2 := bR.frozen 2
  have r0 := bR.cell 0
  have r1 := bR.cell 1
  have r2 := bR.cell 2
  simp only [List.getElem?_toArray, List.getElem?_cons_zero, List.getElem?_cons_succ] at r0 r1 r2
  go_wp2_with fail
  refine bodyPost_ret (v := .tuple #[.agg #[.int .i64 0, .int .i64 0, .string noText], .int .i64 4]) ?_ rfl ⟨rfl, ?_⟩
  · simp [results, Tryd.results59, go_sem, r0, r1, r2]
  · exact (((hb3.setCell (by simp; try omega) _).setCell (by simp; try omega) _).setCell (by simp; try omega) _)

set_option maxRecDepth 100000 in
set_option maxHeartbeats 8000000 in
theorem two_div (kind unit z1 z2 : Int) (m1 m2 : Bool) (v1 v2 : Value) (L1 L2 : List Int) (w : World) (h1 : DigV w v1 L1) (h2 : DigV w v2 L2) (n1 : Norm L1) (n2 : Norm L2) (e1 : zOf m1 L1 = z1) (e2 : zOf m2 L2 = z2) (b1 : InZ z1) (b2 : InZ z2) (u0 : 0 < unit) (u1 : unit ≤ 10000) (hz : z2 ≠ 0) :
    Calls Tryd.prog 59 #[.int .i64 6, .int .i64 kind, .agg #[.bool m1, v1], .agg #[.bool m2, v2], .int .i64 unit] w (FitRes kind ((z1 * unit).tdiv z2) w) := by
  have l1 := big_len n1 e1 (inz_pw b1).1 (inz_pw b1).2
  have l2 := big_len n2 e2 (inz_pw b2).1 (inz_pw b2).2
  obtain ⟨A1, c1, rfl, _, _⟩ := DigV.open h1
  obtain ⟨A2, c2, rfl, _, _⟩ := DigV.open h2
  have D1 := Lib.hid h1
  have D2 := Lib.hid h2
  have N1 := Lib.hid n1
  have N2 := Lib.hid n2
  have E1 := Lib.hid e1
  have E2 := Lib.hid e2
  have B1 := Lib.hid b1
  have B2 := Lib.hid b2
  have hL2 : 0 < L2.length := zOf_some (by rw [e2]; exact hz)
  clear h1 h2 n1 n2 e1 e2 b1 b2
  obtain ⟨W, hW⟩ : ∃ W, ((w.alloc (Obj.cells #[.bool m1, .slice A1 L1.length c1] 74)).alloc (Obj.cells #[.bool m2, .slice A2 L2.length c2] 74)).alloc (Obj.cells #[.int .i64 0, .int .i64 0, .string noText] 24) = W := ⟨_, rfl⟩
  have hb3 : Below w.heap.size w W := by
    rw [← hW]
    exact (((Below.refl w.heap.size w).alloc (Nat.le_refl _) _).alloc (by simp) _).alloc (by simp; omega) _
  have bA : Blk W w.heap.size #[.bool m1, .slice A1 L1.length c1] 74 := by
    rw [← hW]
    exact ((Blk.new w _ _).alloc _).alloc _
  have bB : Blk W (w.heap.size + 1) #[.bool m2, .slice A2 L2.length c2] 74 := by
    rw [← hW]
    exact (Blk.atB (by simp)).alloc _
  have bR : Blk W (w.heap.size + 1 + 1) #[.int .i64 0, .int .i64 0, .string noText] 24 := by
    rw [← hW]
    exact Blk.atB (by simp)
  have HW := Lib.hid hW
  clear hW
  have y0 := bA.cell 0
  have y1 := bA.cell 1
  have y2 := bB.cell 0
  have y3 := bB.cell 1
  simp only [List.getElem?_toArray, List.getElem?_cons_zero, List.getElem?_cons_succ] at y0 y1 y2 y3
  go_enter Tryd.func59, Tryd.ntmps59
  go_upto_region 1 with fail
  rw [HW.out]
  go_wp2_with fail
  go_region_held3 (fun w' => w'.cell? ⟨w.heap.size, 0, none⟩ = some (.bool m1) ∧ w'.cell? ⟨w.heap.size, 1, none⟩ = some (.slice A1 L1.length c1) ∧ w'.cell? ⟨w.heap.size + 1, 0, none⟩ = some (.bool m2) ∧ w'.cell? ⟨w.heap.size + 1, 1, none⟩ = some (.slice A2 L2.length c2)) (first | exact ⟨y60, y61, y62, y63⟩ | exact ⟨y50, y51, y52, y53⟩ | exact ⟨y40, y41, y42, y43⟩ | exact ⟨y0, y1, y2, y3⟩) ((first
    | (go_at_call 58; have hC := big_of unit W.drew (by omega) (by omega); (with_reducible refine hC.mono ?_); clear hC; rintro e w4 ⟨m4, v4, L4, rfl, hd4, hn4, hz4, hb4⟩; obtain ⟨A4, c4, rfl, _, _⟩ := DigV.open hd4.1; have h4 : Below w.heap.size w w4 := hb3.drew.trans (hb4.mono hb3.drew.size); have bR4 := bR.drew.below hb4; have bA4 := bA.drew.below hb4; have bB4 := bB.drew.below hb4; have y40 := bA4.cell 0; have y41 := bA4.cell 1; have y42 := bB4.cell 0; have y43 := bB4.cell 1; simp only [List.getElem?_toArray, List.getElem?_cons_zero, List.getElem?_cons_succ] at y40 y41 y42 y43; have l4 := big_len hn4 hz4 (inz_pw (inz_unit u0 u1)).1 (inz_pw (inz_unit u0 u1)).2)
    | (go_at_call 76; have hC := big_times m1 m4 _ _ L1 L4 w4 (D1.out.below h4) hd4.1 N1.out hn4 (by omega) _ _ E1.out hz4; (with_reducible refine hC.mono ?_); clear hC; rintro e w5 ⟨m5, v5, L5, rfl, hd5, hn5, hz5, hb5⟩; obtain ⟨A5, c5, rfl, _, _⟩ := DigV.open hd5.1; have h5 : Below w.heap.size w w5 := h4.trans (hb5.mono h4.size); have bR5 := bR4.below hb5; have bA5 := bA4.below hb5; have bB5 := bB4.below hb5; have y50 := bA5.cell 0; have y51 := bA5.cell 1; have y52 := bB5.cell 0; have y53 := bB5.cell 1; simp only [List.getElem?_toArray, List.getElem?_cons_zero, List.getElem?_cons_succ] at y50 y51 y52 y53; have l5 := big_len hn5 hz5 (inz_mul B1.out (inz_unit u0 u1)).1 (inz_mul B1.out (inz_unit u0 u1)).2)
    | (go_at_call 79; have hC := over_f m5 m2 _ _ L5 L2 w5 hd5.1 (D2.out.below h5) hn5 N2.out (by omega) (by omega) _ _ hz5 E2.out hz; (with_reducible refine hC.mono ?_); clear hC; rintro e w6 ⟨rfl, hb6⟩; have h6 : Below w.heap.size w w6 := h5.trans (hb6.mono h5.size); have bR6 := bR5.below hb6; have bA6 := bA5.below hb6; have bB6 := bB5.below hb6; have y60 := bA6.cell 0; have y61 := bA6.cell 1; have y62 := bB6.cell 0; have y63 := bB6.cell 1; simp only [List.getElem?_toArray, List.getElem?_cons_zero, List.getElem?_cons_succ] at y60 y61 y62 y63)))
  go_step
  go_step
  go_wp2_with (go_at_call 56; have hC := result_f kind ((z1 * unit).tdiv z2) w6; (with_reducible refine hC.mono ?_); clear hC; rintro e w7 ⟨rfl, hb7⟩; have h7 : Below w.heap.size w w7 := h6.trans (hb7.mono h6.size); have bR7 := bR6.below hb7; have r0 := bR7.cell 0; have r1 := bR7.cell 1; have r2 := bR7.cell 2; have f0 := bR7.frozen 0; have f1 := bR7.frozen 1; have f2 := bR7.frozen 2; simp only [List.getElem?_toArray, List.getElem?_cons_zero, List.getElem?_cons_succ] at r0 r1 r2)
  refine bodyPost_ret ?_ rfl ⟨rfl, ?_⟩
  · simp [results, Tryd.results59, go_sem, r0, r1, r2]
  · exact (((h7.setCell (by simp; try omega) _).setCell (by simp; try omega) _).setCell (by simp; try omega) _)

end Go.Proofs.YtimmgiiddckleaaDoor
