/-
  The reference's arithmetic: what it makes of values that may be.
-/
import Derived.Test.YtippffjhkinfoaaGreatDoorRefQ
namespace Go.Proofs.YtippffjhkinfoaaGreatDoor
open Go.RowKit

theorem two_any (op : Int) (hop : op = 3 ∨ op = 4 ∨ op = 5 ∨ op = 6) (kind unit z1 z2 : Int) (m1 m2 : Bool) (v1 v2 : Value) (L1 L2 : List Int) (w : World) (h1 : DigV w v1 L1) (h2 : DigV w v2 L2) (n1 : Norm L1) (n2 : Norm L2) (e1 : zOf m1 L1 = z1) (e2 : zOf m2 L2 = z2) (b1 : InZ z1) (b2 : InZ z2) (u0 : 0 < unit) (u1 : unit ≤ 10000) :
    Calls Tryz.prog 51 #[.int .i64 op, .int .i64 kind, .agg #[.bool m1, v1], .agg #[.bool m2, v2], .int .i64 unit] w (ResT (twoR op kind unit z1 z2) w) := by
  unfold twoR
  rcases hop with rfl | rfl | rfl | rfl
  · exact two_add kind unit z1 z2 m1 m2 v1 v2 L1 L2 w h1 h2 n1 n2 e1 e2 b1 b2
  · exact two_sub kind unit z1 z2 m1 m2 v1 v2 L1 L2 w h1 h2 n1 n2 e1 e2 b1 b2
  · exact two_mul kind unit z1 z2 m1 m2 v1 v2 L1 L2 w h1 h2 n1 n2 e1 e2 b1 b2 u0 u1
  · rw [if_neg (by decide), if_neg (by decide), if_neg (by decide)]
    by_cases hz : z2 = 0
    · rw [if_pos hz]
      exact two_none kind unit z1 z2 m1 m2 v1 v2 L1 L2 w h1 h2 n1 n2 e1 e2 b1 b2 hz
    · rw [if_neg hz]
      exact two_div kind unit z1 z2 m1 m2 v1 v2 L1 L2 w h1 h2 n1 n2 e1 e2 b1 b2 u0 u1 hz

set_option maxRecDepth 100000 in
set_option maxHeartbeats 8000000 in
theorem arith_null (op : Int) (L : List Dat) (v : Value) (w : World) (hv : DatV w v L) (hn : hasR nullD L = true) :
    Calls Tryz.prog 26 #[.int .i64 op, v] w (ResPost 0 0 0 w) := by
  have HN := Lib.hid (fun w' (hb : Below w.heap.size w w') => hasN_any L v w' (hv.below hb))
  rw [hn] at HN
  have hb0 := (Below.refl w.heap.size w).alloc (Nat.le_refl _) (.cells #[.int .i64 0, .int .i64 0, .string noText] 27)
  have bR := Blk.new w #[.int .i64 0, .int .i64 0, .string noText] 27
  clear hv hn
  go_enter Tryz.func26, Tryz.ntmps26
  go_wp2_with (go_at_call 43; have hC := HN.out _ hb0; (with_reducible refine hC.mono ?_); clear hC; rintro e w3 ⟨rfl, hb3⟩; have bR3 := bR.below hb3; have h3 := hb0.trans (hb3.mono hb0.size); have r0 := bR3.cell 0; have r1 := bR3.cell 1; have r2 := bR3.cell 2; have f0 := bR3.frozen 0; have f1 := bR3.frozen 1; have f2 := bR3.frozen 2; simp only [List.getElem?_toArray, List.getElem?_cons_zero, List.getElem?_cons_succ] at r0 r1 r2)
  refine bodyPost_ret ?_ rfl ⟨rfl, ?_⟩
  · simp [results, Tryz.results26, go_sem, r0, r1, r2]
  · exact (((h3.setCell (by simp; try omega) _).setCell (by simp; try omega) _).setCell (by simp; try omega) _)

set_option maxRecDepth 100000 in
set_option maxHeartbeats 8000000 in
theorem arith_dec (a : Dat) (v : Value) (w : World) (hv : DatV w v [a]) (hn : hasR nullD [a] = false) (ha : InI a) :
    Calls Tryz.prog 26 #[.int .i64 20, v] w (ResT (fitT 3 (numZ a.k a.i)) w) := by
  have HN := Lib.hid (fun w' (hb : Below w.heap.size w w') => hasN_any [a] v w' (hv.below hb))
  rw [hn] at HN
  have hb0 := (Below.refl w.heap.size w).alloc (Nat.le_refl _) (.cells #[.int .i64 0, .int .i64 0, .string noText] 27)
  have bR := Blk.new w #[.int .i64 0, .int .i64 0, .string noText] 27
  obtain ⟨p, off, c, rfl, hc, hbl, x0, x1, x2⟩ := hv.one
  have hx : At3 w p off a := ⟨x0, x1, x2⟩
  clear hv x0 x1 x2 hn
  unfold InI at ha
  go_enter Tryz.func26, Tryz.ntmps26
  go_upto_region 4 with (go_at_call 43; have hC := HN.out _ hb0; (with_reducible refine hC.mono ?_); clear hC; rintro e w3 ⟨rfl, hb3⟩; have bR3 := bR.below hb3; have h3 := hb0.trans (hb3.mono hb0.size); have hx3 := hx.below hbl h3; obtain ⟨x0, x1, x2⟩ := hx3; have q3 := bR3.lt; obtain ⟨W, hW⟩ : ∃ W, w3.alloc (.cells #[.int .i64 a.k, .int .i64 a.i, .string a.s] 27) = W := ⟨_, rfl⟩; have hbW : Below w.heap.size w W := (by rw [← hW]; exact h3.alloc h3.size _); have bRW : Blk W w.heap.size _ _ := (by rw [← hW]; exact bR3.alloc _); have bA : Blk W w3.heap.size #[.int .i64 a.k, .int .i64 a.i, .string a.s] 27 := (by rw [← hW]; exact Blk.new _ _ _); have HW := Lib.hid hW; clear hW)
  rw [HW.out]
  clear x0 x1 x2
  have y0 := bA.cell 0
  have y1 := bA.cell 1
  have y2 := bA.cell 2
  simp only [List.getElem?_toArray, List.getElem?_cons_zero, List.getElem?_cons_succ] at y0 y1 y2
  go_wp2_with (first
    | (go_at_call 46; have hC := number_f a.k a.i a.s W ha.1 ha.2; (with_reducible refine hC.mono ?_); clear hC; rintro e w4 ⟨m4, v4, L4, rfl, hd4, hn4, hz4, hb4⟩; obtain ⟨A4, c4, rfl, _, _⟩ := DigV.open hd4.1; have h4 : Below w.heap.size w w4 := hbW.trans (hb4.mono hbW.size); have bR4 := bRW.below hb4; have bA4 := bA.below hb4; have y40 := bA4.cell 0; have y41 := bA4.cell 1; have y42 := bA4.cell 2; simp only [List.getElem?_toArray, List.getElem?_cons_zero, List.getElem?_cons_succ] at y40 y41 y42; have l4 := big_len (n := 4) hn4 hz4 (numZ_pw a.k ha).1 (numZ_pw a.k ha).2)
    | (go_at_call 47; have hC := fits_f m4 _ L4 w4 hd4.1 hn4 (by omega) _ hz4; (with_reducible refine hC.mono ?_); clear hC; rintro e w5 ⟨rfl, hb5⟩; have h5 : Below w.heap.size w w5 := h4.trans (hb5.mono h4.size); have bR5 := bR4.below hb5; have bA5 := bA4.below hb5; have y50 := bA5.cell 0; have y51 := bA5.cell 1; have y52 := bA5.cell 2; simp only [List.getElem?_toArray, List.getElem?_cons_zero, List.getElem?_cons_succ] at y50 y51 y52)
    | (go_at_call 48; have hC := result_f 3 (numZ a.k a.i) w5; (with_reducible refine hC.mono ?_); clear hC; rintro e w6 ⟨rfl, hb6⟩; have h6 : Below w.heap.size w w6 := h5.trans (hb6.mono h5.size); have bR6 := bR5.below hb6; have bA6 := bA5.below hb6; have y60 := bA6.cell 0; have y61 := bA6.cell 1; have y62 := bA6.cell 2; simp only [List.getElem?_toArray, List.getElem?_cons_zero, List.getElem?_cons_succ] at y60 y61 y62; have r0 := bR6.cell 0; have r1 := bR6.cell 1; have r2 := bR6.cell 2; have f0 := bR6.frozen 0; have f1 := bR6.frozen 1; have f2 := bR6.frozen 2; simp only [List.getElem?_toArray, List.getElem?_cons_zero, List.getElem?_cons_succ] at r0 r1 r2))
  refine bodyPost_ret ?_ rfl ⟨rfl, ?_⟩
  · simp [results, Tryz.results26, go_sem, r0, r1, r2, fitT]
  · exact (((h6.setCell (by simp; try omega) _).setCell (by simp; try omega) _).setCell (by simp; try omega) _)
theorem i64_pw {i : Int} (h : -9223372036854775808 ≤ i ∧ i ≤ 9223372036854775807) : -pw 4 < i ∧ i < pw 4 := by
  refine inz_pw ?_
  unfold InZ
  omega

set_option maxRecDepth 100000 in
set_option maxHeartbeats 8000000 in
theorem arith_neg (a : Dat) (v : Value) (w : World) (hv : DatV w v [a]) (hn : hasR nullD [a] = false) (ha : InI a) :
    Calls Tryz.prog 26 #[.int .i64 1, v] w (ResT (fitT a.k (-a.i)) w) := by
  have HN := Lib.hid (fun w' (hb : Below w.heap.size w w') => hasN_any [a] v w' (hv.below hb))
  rw [hn] at HN
  have hb0 := (Below.refl w.heap.size w).alloc (Nat.le_refl _) (.cells #[.int .i64 0, .int .i64 0, .string noText] 27)
  have bR := Blk.new w #[.int .i64 0, .int .i64 0, .string noText] 27
  obtain ⟨p, off, c, rfl, hc, hbl, x0, x1, x2⟩ := hv.one
  have hx : At3 w p off a := ⟨x0, x1, x2⟩
  clear hv x0 x1 x2 hn
  unfold InI at ha
  go_enter Tryz.func26, Tryz.ntmps26
  go_upto_region 4 with (go_at_call 43; have hC := HN.out _ hb0; (with_reducible refine hC.mono ?_); clear hC; rintro e w3 ⟨rfl, hb3⟩; have bR3 := bR.below hb3; have h3 := hb0.trans (hb3.mono hb0.size); have hx3 := hx.below hbl h3; obtain ⟨x0, x1, x2⟩ := hx3; have q3 := bR3.lt; obtain ⟨W, hW⟩ : ∃ W, w3.alloc (.cells #[.int .i64 a.k, .int .i64 a.i, .string a.s] 27) = W := ⟨_, rfl⟩; have hbW : Below w.heap.size w W := (by rw [← hW]; exact h3.alloc h3.size _); have bRW : Blk W w.heap.size _ _ := (by rw [← hW]; exact bR3.alloc _); have bA : Blk W w3.heap.size #[.int .i64 a.k, .int .i64 a.i, .string a.s] 27 := (by rw [← hW]; exact Blk.new _ _ _); have HW := Lib.hid hW; clear hW)
  rw [HW.out]
  clear x0 x1 x2
  have y0 := bA.cell 0
  have y1 := bA.cell 1
  have y2 := bA.cell 2
  simp only [List.getElem?_toArray, List.getElem?_cons_zero, List.getElem?_cons_succ] at y0 y1 y2
  go_wp2_with (first
    | (go_at_call 50; have hC := big_of a.i W ha.1 ha.2; (with_reducible refine hC.mono ?_); clear hC; rintro e w4 ⟨m4, v4, L4, rfl, hd4, hn4, hz4, hb4⟩; obtain ⟨A4, c4, rfl, _, _⟩ := DigV.open hd4.1; have h4 : Below w.heap.size w w4 := hbW.trans (hb4.mono hbW.size); have bR4 := bRW.below hb4; have bA4 := bA.below hb4; have y40 := bA4.cell 0; have y41 := bA4.cell 1; have y42 := bA4.cell 2; simp only [List.getElem?_toArray, List.getElem?_cons_zero, List.getElem?_cons_succ] at y40 y41 y42; have l4 := big_len (n := 4) hn4 hz4 (i64_pw ha).1 (i64_pw ha).2)
    | (go_at_call 49; have hC := big_minus m4 _ L4 w4 hd4.1 _ hz4; (with_reducible refine hC.mono ?_); clear hC; rintro e w5 ⟨m5, rfl, hz5, hb5⟩; have h5 : Below w.heap.size w w5 := h4.trans (hb5.mono h4.size); have bR5 := bR4.below hb5; have bA5 := bA4.below hb5; have y50 := bA5.cell 0; have y51 := bA5.cell 1; have y52 := bA5.cell 2; simp only [List.getElem?_toArray, List.getElem?_cons_zero, List.getElem?_cons_succ] at y50 y51 y52)
    | (go_at_call 47; have hC := fits_f m5 _ L4 w5 (hd4.1.below hb5) hn4 (by omega) _ hz5; (with_reducible refine hC.mono ?_); clear hC; rintro e w6 ⟨rfl, hb6⟩; have h6 : Below w.heap.size w w6 := h5.trans (hb6.mono h5.size); have bR6 := bR5.below hb6; have bA6 := bA5.below hb6; have y60 := bA6.cell 0; have y61 := bA6.cell 1; have y62 := bA6.cell 2; simp only [List.getElem?_toArray, List.getElem?_cons_zero, List.getElem?_cons_succ] at y60 y61 y62)
    | (go_at_call 48; have hC := result_f a.k (-a.i) w6; (with_reducible refine hC.mono ?_); clear hC; rintro e w7 ⟨rfl, hb7⟩; have h7 : Below w.heap.size w w7 := h6.trans (hb7.mono h6.size); have bR7 := bR6.below hb7; have bA7 := bA6.below hb7; have y70 := bA7.cell 0; have y71 := bA7.cell 1; have y72 := bA7.cell 2; simp only [List.getElem?_toArray, List.getElem?_cons_zero, List.getElem?_cons_succ] at y70 y71 y72; have r0 := bR7.cell 0; have r1 := bR7.cell 1; have r2 := bR7.cell 2; have f0 := bR7.frozen 0; have f1 := bR7.frozen 1; have f2 := bR7.frozen 2; simp only [List.getElem?_toArray, List.getElem?_cons_zero, List.getElem?_cons_succ] at r0 r1 r2))
  refine bodyPost_ret ?_ rfl ⟨rfl, ?_⟩
  · simp [results, Tryz.results26, go_sem, r0, r1, r2, fitT]
  · exact (((h7.setCell (by simp; try omega) _).setCell (by simp; try omega) _).setCell (by simp; try omega) _)
set_option maxRecDepth 100000 in
set_option maxHeartbeats 8000000 in
theorem arith_abs_neg (a : Dat) (v : Value) (w : World) (hv : DatV w v [a]) (hn : hasR nullD [a] = false) (ha : InI a) (hi : a.i < 0) :
    Calls Tryz.prog 26 #[.int .i64 19, v] w (ResT (fitT a.k (-a.i)) w) := by
  have HN := Lib.hid (fun w' (hb : Below w.heap.size w w') => hasN_any [a] v w' (hv.below hb))
  rw [hn] at HN
  have hb0 := (Below.refl w.heap.size w).alloc (Nat.le_refl _) (.cells #[.int .i64 0, .int .i64 0, .string noText] 27)
  have bR := Blk.new w #[.int .i64 0, .int .i64 0, .string noText] 27
  obtain ⟨p, off, c, rfl, hc, hbl, x0, x1, x2⟩ := hv.one
  have hx : At3 w p off a := ⟨x0, x1, x2⟩
  clear hv x0 x1 x2 hn
  unfold InI at ha
  go_enter Tryz.func26, Tryz.ntmps26
  go_upto_region 4 with (go_at_call 43; have hC := HN.out _ hb0; (with_reducible refine hC.mono ?_); clear hC; rintro e w3 ⟨rfl, hb3⟩; have bR3 := bR.below hb3; have h3 := hb0.trans (hb3.mono hb0.size); have hx3 := hx.below hbl h3; obtain ⟨x0, x1, x2⟩ := hx3; have q3 := bR3.lt; obtain ⟨W, hW⟩ : ∃ W, w3.alloc (.cells #[.int .i64 a.k, .int .i64 a.i, .string a.s] 27) = W := ⟨_, rfl⟩; have hbW : Below w.heap.size w W := (by rw [← hW]; exact h3.alloc h3.size _); have bRW : Blk W w.heap.size _ _ := (by rw [← hW]; exact bR3.alloc _); have bA : Blk W w3.heap.size #[.int .i64 a.k, .int .i64 a.i, .string a.s] 27 := (by rw [← hW]; exact Blk.new _ _ _); have HW := Lib.hid hW; clear hW)
  rw [HW.out]
  clear x0 x1 x2
  have y0 := bA.cell 0
  have y1 := bA.cell 1
  have y2 := bA.cell 2
  simp only [List.getElem?_toArray, List.getElem?_cons_zero, List.getElem?_cons_succ] at y0 y1 y2
  go_wp2_with (first
    | (go_at_call 50; have hC := big_of a.i W ha.1 ha.2; (with_reducible refine hC.mono ?_); clear hC; rintro e w4 ⟨m4, v4, L4, rfl, hd4, hn4, hz4, hb4⟩; obtain ⟨A4, c4, rfl, _, _⟩ := DigV.open hd4.1; have h4 : Below w.heap.size w w4 := hbW.trans (hb4.mono hbW.size); have bR4 := bRW.below hb4; have bA4 := bA.below hb4; have y40 := bA4.cell 0; have y41 := bA4.cell 1; have y42 := bA4.cell 2; simp only [List.getElem?_toArray, List.getElem?_cons_zero, List.getElem?_cons_succ] at y40 y41 y42; have l4 := big_len (n := 4) hn4 hz4 (i64_pw ha).1 (i64_pw ha).2)
    | (go_at_call 49; have hC := big_minus m4 _ L4 w4 hd4.1 _ hz4; (with_reducible refine hC.mono ?_); clear hC; rintro e w5 ⟨m5, rfl, hz5, hb5⟩; have h5 : Below w.heap.size w w5 := h4.trans (hb5.mono h4.size); have bR5 := bR4.below hb5; have bA5 := bA4.below hb5; have y50 := bA5.cell 0; have y51 := bA5.cell 1; have y52 := bA5.cell 2; simp only [List.getElem?_toArray, List.getElem?_cons_zero, List.getElem?_cons_succ] at y50 y51 y52)
    | (go_at_call 47; have hC := fits_f m5 _ L4 w5 (hd4.1.below hb5) hn4 (by omega) _ hz5; (with_reducible refine hC.mono ?_); clear hC; rintro e w6 ⟨rfl, hb6⟩; have h6 : Below w.heap.size w w6 := h5.trans (hb6.mono h5.size); have bR6 := bR5.below hb6; have bA6 := bA5.below hb6; have y60 := bA6.cell 0; have y61 := bA6.cell 1; have y62 := bA6.cell 2; simp only [List.getElem?_toArray, List.getElem?_cons_zero, List.getElem?_cons_succ] at y60 y61 y62)
    | (go_at_call 48; have hC := result_f a.k (-a.i) w6; (with_reducible refine hC.mono ?_); clear hC; rintro e w7 ⟨rfl, hb7⟩; have h7 : Below w.heap.size w w7 := h6.trans (hb7.mono h6.size); have bR7 := bR6.below hb7; have bA7 := bA6.below hb7; have y70 := bA7.cell 0; have y71 := bA7.cell 1; have y72 := bA7.cell 2; simp only [List.getElem?_toArray, List.getElem?_cons_zero, List.getElem?_cons_succ] at y70 y71 y72; have r0 := bR7.cell 0; have r1 := bR7.cell 1; have r2 := bR7.cell 2; have f0 := bR7.frozen 0; have f1 := bR7.frozen 1; have f2 := bR7.frozen 2; simp only [List.getElem?_toArray, List.getElem?_cons_zero, List.getElem?_cons_succ] at r0 r1 r2))
  refine bodyPost_ret ?_ rfl ⟨rfl, ?_⟩
  · simp [results, Tryz.results26, go_sem, r0, r1, r2, fitT]
  · exact (((h7.setCell (by simp; try omega) _).setCell (by simp; try omega) _).setCell (by simp; try omega) _)
set_option maxRecDepth 100000 in
set_option maxHeartbeats 8000000 in
theorem arith_abs_pos (a : Dat) (v : Value) (w : World) (hv : DatV w v [a]) (hn : hasR nullD [a] = false) (hi : ¬ a.i < 0) (hs : a.s = noText) :
    Calls Tryz.prog 26 #[.int .i64 19, v] w (ResPost a.k a.i 0 w) := by
  have HN := Lib.hid (fun w' (hb : Below w.heap.size w w') => hasN_any [a] v w' (hv.below hb))
  rw [hn] at HN
  have hb0 := (Below.refl w.heap.size w).alloc (Nat.le_refl _) (.cells #[.int .i64 0, .int .i64 0, .string noText] 27)
  have bR := Blk.new w #[.int .i64 0, .int .i64 0, .string noText] 27
  obtain ⟨p, off, c, rfl, hc, hbl, x0, x1, x2⟩ := hv.one
  have hx : At3 w p off a := ⟨x0, x1, x2⟩
  clear hv x0 x1 x2 hn
  have hi' : decide (a.i < 0) = false := decide_eq_false hi
  have HS := Lib.hid hs
  clear hi hs
  go_enter Tryz.func26, Tryz.ntmps26
  go_upto_region 4 with (go_at_call 43; have hC := HN.out _ hb0; (with_reducible refine hC.mono ?_); clear hC; rintro e w3 ⟨rfl, hb3⟩; have bR3 := bR.below hb3; have h3 := hb0.trans (hb3.mono hb0.size); have hx3 := hx.below hbl h3; obtain ⟨x0, x1, x2⟩ := hx3; have q3 := bR3.lt; obtain ⟨W, hW⟩ : ∃ W, w3.alloc (.cells #[.int .i64 a.k, .int .i64 a.i, .string a.s] 27) = W := ⟨_, rfl⟩; have hbW : Below w.heap.size w W := (by rw [← hW]; exact h3.alloc h3.size _); have bRW : Blk W w.heap.size _ _ := (by rw [← hW]; exact bR3.alloc _); have bA : Blk W w3.heap.size #[.int .i64 a.k, .int .i64 a.i, .string a.s] 27 := (by rw [← hW]; exact Blk.new _ _ _); have HW := Lib.hid hW; clear hW)
  rw [HW.out]
  clear x0 x1 x2
  have y0 := bA.cell 0
  have y1 := bA.cell 1
  have y2 := bA.cell 2
  simp only [List.getElem?_toArray, List.getElem?_cons_zero, List.getElem?_cons_succ] at y0 y1 y2
  rw [HS.out] at y2
  have r0 := bRW.cell 0
  have r1 := bRW.cell 1
  have r2 := bRW.cell 2
  have f0 := bRW.frozen 0
  have f1 := bRW.frozen 1
  have f2 := bRW.frozen 2
  simp only [List.getElem?_toArray, List.getElem?_cons_zero, List.getElem?_cons_succ] at r0 r1 r2
  go_wp2_with fail
  refine bodyPost_ret ?_ rfl ⟨rfl, ?_⟩
  · simp [results, Tryz.results26, go_sem, r0, r1, r2]
  · exact (((hbW.setCell (by simp; try omega) _).setCell (by simp; try omega) _).setCell (by simp; try omega) _)
theorem i64_inz {i : Int} (h : -9223372036854775808 ≤ i ∧ i ≤ 9223372036854775807) : InZ i := by
  unfold InZ
  omega

set_option maxRecDepth 100000 in
set_option maxHeartbeats 8000000 in
theorem arith_int (op : Int) (a b : Dat) (v : Value) (w : World) (hv : DatV w v [a, b]) (hn : hasR nullD [a, b] = false) (hop : op = 3 ∨ op = 4 ∨ op = 5 ∨ op = 6) (ha : InI a) (hb : InI b) (h1 : a.k = 2) (h2 : b.k = 2) :
    Calls Tryz.prog 26 #[.int .i64 op, v] w (ResT (twoR op 2 1 a.i b.i) w) := by
  have HN := Lib.hid (fun w' (hb : Below w.heap.size w w') => hasN_any [a, b] v w' (hv.below hb))
  rw [hn] at HN
  have hb0 := (Below.refl w.heap.size w).alloc (Nat.le_refl _) (.cells #[.int .i64 0, .int .i64 0, .string noText] 27)
  have bR := Blk.new w #[.int .i64 0, .int .i64 0, .string noText] 27
  obtain ⟨p, off, c, rfl, hc, hbl, ⟨x0, x1, x2⟩, x3, x4, x5⟩ := hv.two
  have hx : At3 w p off a := ⟨x0, x1, x2⟩
  have hy : At3 w p (off + 3) b := ⟨x3, x4, x5⟩
  clear hv x0 x1 x2 x3 x4 x5 hn
  unfold InI at ha hb
  have g20 : (op == 20) = false := by rcases hop with rfl | rfl | rfl | rfl <;> rfl
  have g1 : (op == 1) = false := by rcases hop with rfl | rfl | rfl | rfl <;> rfl
  have g19 : (op == 19) = false := by rcases hop with rfl | rfl | rfl | rfl <;> rfl
  have HOP := Lib.hid hop
  clear hop
  have H1 := Lib.hid h1
  have H2 := Lib.hid h2
  clear h1 h2
  go_enter Tryz.func26, Tryz.ntmps26
  go_upto_region 13 with (go_at_call 43; have hC := HN.out _ hb0; (with_reducible refine hC.mono ?_); clear hC; rintro e w3 ⟨rfl, hb3⟩; have bR3 := bR.below hb3; have h3 := hb0.trans (hb3.mono hb0.size); have hx3 := hx.below hbl h3; obtain ⟨x0, x1, x2⟩ := hx3; have hq := fun (o : Obj) => hy.below hbl (h3.alloc h3.size o); have x3 := fun o => (hq o).1; have x4 := fun o => (hq o).2.1; have x5 := fun o => (hq o).2.2; clear hq; have q3 := bR3.lt; obtain ⟨W, hW⟩ : ∃ W, (w3.alloc (.cells #[.int .i64 a.k, .int .i64 a.i, .string a.s] 27)).alloc (.cells #[.int .i64 b.k, .int .i64 b.i, .string b.s] 27) = W := ⟨_, rfl⟩; have hbW : Below w.heap.size w W := (by rw [← hW]; exact (h3.alloc h3.size _).alloc (by simp; omega) _); have bRW : Blk W w.heap.size _ _ := (by rw [← hW]; exact (bR3.alloc _).alloc _); have bA : Blk W w3.heap.size #[.int .i64 a.k, .int .i64 a.i, .string a.s] 27 := (by rw [← hW]; exact (Blk.new _ _ _).alloc _); have bB : Blk W (w3.heap.size + 1) #[.int .i64 b.k, .int .i64 b.i, .string b.s] 27 := (by rw [← hW]; exact Blk.atB (by simp)); have HW := Lib.hid hW; clear hW)
  rw [HW.out]
  clear x0 x1 x2 x3 x4 x5
  have yw0 := bA.cell 0
  have yw1 := bA.cell 1
  have yw2 := bA.cell 2
  have yw3 := bB.cell 0
  have yw4 := bB.cell 1
  have yw5 := bB.cell 2
  simp only [List.getElem?_toArray, List.getElem?_cons_zero, List.getElem?_cons_succ] at yw0 yw1 yw2 yw3 yw4 yw5
  have h1 : (a.k == 2) = true := by simpa using H1.out
  have h2 : (b.k == 2) = true := by simpa using H2.out
  go_wp2_with fail
  go_region_held3 (fun w' => w'.cell? ⟨w3.heap.size, 0, none⟩ = some (.int .i64 a.k) ∧ w'.cell? ⟨w3.heap.size, 1, none⟩ = some (.int .i64 a.i) ∧ w'.cell? ⟨w3.heap.size, 2, none⟩ = some (.string a.s) ∧ w'.cell? ⟨w3.heap.size + 1, 0, none⟩ = some (.int .i64 b.k) ∧ w'.cell? ⟨w3.heap.size + 1, 1, none⟩ = some (.int .i64 b.i) ∧ w'.cell? ⟨w3.heap.size + 1, 2, none⟩ = some (.string b.s)) (first | exact ⟨y60, y61, y62, y63, y64, y65⟩ | exact ⟨y50, y51, y52, y53, y54, y55⟩ | exact ⟨y40, y41, y42, y43, y44, y45⟩ | exact ⟨yw0, yw1, yw2, yw3, yw4, yw5⟩ | exact ⟨cell_set3 (by omega) y60, cell_set3 (by omega) y61, cell_set3 (by omega) y62, cell_set3 (by omega) y63, cell_set3 (by omega) y64, cell_set3 (by omega) y65⟩) ((first
    | (go_at_call 50; have hC := big_of a.i W.drew ha.1 ha.2; (with_reducible refine hC.mono ?_); clear hC; rintro e w4 ⟨m4, v4, L4, rfl, hd4, hn4, hz4, hb4⟩; obtain ⟨A4, c4, rfl, _, _⟩ := DigV.open hd4.1; have h4 : Below w.heap.size w w4 := hbW.drew.trans (hb4.mono hbW.drew.size); have bR4 := bRW.drew.below hb4; have bA4 := bA.drew.below hb4; have bB4 := bB.drew.below hb4; have y40 := bA4.cell 0; have y41 := bA4.cell 1; have y42 := bA4.cell 2; have y43 := bB4.cell 0; have y44 := bB4.cell 1; have y45 := bB4.cell 2; simp only [List.getElem?_toArray, List.getElem?_cons_zero, List.getElem?_cons_succ] at y40 y41 y42 y43 y44 y45)
    | (go_at_call 50; have hC := big_of b.i w4 hb.1 hb.2; (with_reducible refine hC.mono ?_); clear hC; rintro e w5 ⟨m5, v5, L5, rfl, hd5, hn5, hz5, hb5⟩; obtain ⟨A5, c5, rfl, _, _⟩ := DigV.open hd5.1; have h5 : Below w.heap.size w w5 := h4.trans (hb5.mono h4.size); have bR5 := bR4.below hb5; have bA5 := bA4.below hb5; have bB5 := bB4.below hb5; have y50 := bA5.cell 0; have y51 := bA5.cell 1; have y52 := bA5.cell 2; have y53 := bB5.cell 0; have y54 := bB5.cell 1; have y55 := bB5.cell 2; simp only [List.getElem?_toArray, List.getElem?_cons_zero, List.getElem?_cons_succ] at y50 y51 y52 y53 y54 y55)
    | (go_at_call 51; have hC := two_any op HOP.out 2 1 (a.i) (b.i) m4 m5 _ _ L4 L5 w5 (hd4.1.below hb5) hd5.1 hn4 hn5 hz4 hz5 (i64_inz ha) (i64_inz hb) (by decide) (by decide); (with_reducible refine hC.mono ?_); clear hC; rintro e w6 ⟨rfl, hb6⟩; have h6 : Below w.heap.size w w6 := h5.trans (hb6.mono h5.size); have bR6 := bR5.below hb6; have bA6 := bA5.below hb6; have bB6 := bB5.below hb6; have y60 := bA6.cell 0; have y61 := bA6.cell 1; have y62 := bA6.cell 2; have y63 := bB6.cell 0; have y64 := bB6.cell 1; have y65 := bB6.cell 2; simp only [List.getElem?_toArray, List.getElem?_cons_zero, List.getElem?_cons_succ] at y60 y61 y62 y63 y64 y65; have r0 := bR6.cell 0; have r1 := bR6.cell 1; have r2 := bR6.cell 2; have f0 := bR6.frozen 0; have f1 := bR6.frozen 1; have f2 := bR6.frozen 2; simp only [List.getElem?_toArray, List.getElem?_cons_zero, List.getElem?_cons_succ] at r0 r1 r2)))
  go_step
  go_step
  go_wp2_with fail
  refine bodyPost_ret ?_ rfl ⟨rfl, ?_⟩
  · simp [results, Tryz.results26, go_sem, r0, r1, r2]
  · exact (((h6.setCell (by simp; try omega) _).setCell (by simp; try omega) _).setCell (by simp; try omega) _)
set_option maxRecDepth 100000 in
set_option maxHeartbeats 8000000 in
theorem arith_d_na (op : Int) (a b : Dat) (v : Value) (w : World) (hv : DatV w v [a, b]) (hn : hasR nullD [a, b] = false) (hop : op = 3 ∨ op = 4 ∨ op = 5 ∨ op = 6) (ha : InI a) (hb : InI b) (fB : Bool) (h1 : a.k ≠ 2) (fa : fitsB (numZ a.k a.i) = false) (fb : fitsB (numZ b.k b.i) = fB) :
    Calls Tryz.prog 26 #[.int .i64 op, v] w (ResPost 0 0 4 w) := by
  have HN := Lib.hid (fun w' (hb : Below w.heap.size w w') => hasN_any [a, b] v w' (hv.below hb))
  rw [hn] at HN
  have hb0 := (Below.refl w.heap.size w).alloc (Nat.le_refl _) (.cells #[.int .i64 0, .int .i64 0, .string noText] 27)
  have bR := Blk.new w #[.int .i64 0, .int .i64 0, .string noText] 27
  obtain ⟨p, off, c, rfl, hc, hbl, ⟨x0, x1, x2⟩, x3, x4, x5⟩ := hv.two
  have hx : At3 w p off a := ⟨x0, x1, x2⟩
  have hy : At3 w p (off + 3) b := ⟨x3, x4, x5⟩
  clear hv x0 x1 x2 x3 x4 x5 hn
  unfold InI at ha hb
  have g20 : (op == 20) = false := by rcases hop with rfl | rfl | rfl | rfl <;> rfl
  have g1 : (op == 1) = false := by rcases hop with rfl | rfl | rfl | rfl <;> rfl
  have g19 : (op == 19) = false := by rcases hop with rfl | rfl | rfl | rfl <;> rfl
  have HOP := Lib.hid hop
  clear hop
  have H1 := Lib.hid h1
  clear h1
  have Fa := Lib.hid fa
  have Fb := Lib.hid fb
  clear fa fb
  go_enter Tryz.func26, Tryz.ntmps26
  go_upto_region 13 with (go_at_call 43; have hC := HN.out _ hb0; (with_reducible refine hC.mono ?_); clear hC; rintro e w3 ⟨rfl, hb3⟩; have bR3 := bR.below hb3; have h3 := hb0.trans (hb3.mono hb0.size); have hx3 := hx.below hbl h3; obtain ⟨x0, x1, x2⟩ := hx3; have hq := fun (o : Obj) => hy.below hbl (h3.alloc h3.size o); have x3 := fun o => (hq o).1; have x4 := fun o => (hq o).2.1; have x5 := fun o => (hq o).2.2; clear hq; have q3 := bR3.lt; obtain ⟨W, hW⟩ : ∃ W, (w3.alloc (.cells #[.int .i64 a.k, .int .i64 a.i, .string a.s] 27)).alloc (.cells #[.int .i64 b.k, .int .i64 b.i, .string b.s] 27) = W := ⟨_, rfl⟩; have hbW : Below w.heap.size w W := (by rw [← hW]; exact (h3.alloc h3.size _).alloc (by simp; omega) _); have bRW : Blk W w.heap.size _ _ := (by rw [← hW]; exact (bR3.alloc _).alloc _); have bA : Blk W w3.heap.size #[.int .i64 a.k, .int .i64 a.i, .string a.s] 27 := (by rw [← hW]; exact (Blk.new _ _ _).alloc _); have bB : Blk W (w3.heap.size + 1) #[.int .i64 b.k, .int .i64 b.i, .string b.s] 27 := (by rw [← hW]; exact Blk.atB (by simp)); have HW := Lib.hid hW; clear hW)
  rw [HW.out]
  clear x0 x1 x2 x3 x4 x5
  have yw0 := bA.cell 0
  have yw1 := bA.cell 1
  have yw2 := bA.cell 2
  have yw3 := bB.cell 0
  have yw4 := bB.cell 1
  have yw5 := bB.cell 2
  simp only [List.getElem?_toArray, List.getElem?_cons_zero, List.getElem?_cons_succ] at yw0 yw1 yw2 yw3 yw4 yw5
  have h1 : (a.k == 2) = false := by simpa using H1.out
  go_wp2_with (first
    | (go_at_call 46; have hC := number_f a.k a.i a.s W ha.1 ha.2; (with_reducible refine hC.mono ?_); clear hC; rintro e w4 ⟨m4, v4, L4, rfl, hd4, hn4, hz4, hb4⟩; obtain ⟨A4, c4, rfl, _, _⟩ := DigV.open hd4.1; have h4 : Below w.heap.size w w4 := hbW.trans (hb4.mono hbW.size); have bR4 := bRW.below hb4; have bA4 := bA.below hb4; have bB4 := bB.below hb4; have y40 := bA4.cell 0; have y41 := bA4.cell 1; have y42 := bA4.cell 2; have y43 := bB4.cell 0; have y44 := bB4.cell 1; have y45 := bB4.cell 2; simp only [List.getElem?_toArray, List.getElem?_cons_zero, List.getElem?_cons_succ] at y40 y41 y42 y43 y44 y45; have l4 := big_len (n := 4) hn4 hz4 (numZ_pw a.k ha).1 (numZ_pw a.k ha).2)
    | (go_at_call 47; have hC := fits_f m4 _ L4 w4 hd4.1 hn4 (by omega) _ hz4; (with_reducible refine hC.mono ?_); clear hC; rintro e w5 ⟨rfl, hb5⟩; have h5 : Below w.heap.size w w5 := h4.trans (hb5.mono h4.size); have bR5 := bR4.below hb5; have bA5 := bA4.below hb5; have bB5 := bB4.below hb5; have y50 := bA5.cell 0; have y51 := bA5.cell 1; have y52 := bA5.cell 2; have y53 := bB5.cell 0; have y54 := bB5.cell 1; have y55 := bB5.cell 2; simp only [List.getElem?_toArray, List.getElem?_cons_zero, List.getElem?_cons_succ] at y50 y51 y52 y53 y54 y55; rw [Fa.out])
    | (go_at_call 46; have hC := number_f b.k b.i b.s w5 hb.1 hb.2; (with_reducible refine hC.mono ?_); clear hC; rintro e w6 ⟨m6, v6, L6, rfl, hd6, hn6, hz6, hb6⟩; obtain ⟨A6, c6, rfl, _, _⟩ := DigV.open hd6.1; have h6 : Below w.heap.size w w6 := h5.trans (hb6.mono h5.size); have bR6 := bR5.below hb6; have bA6 := bA5.below hb6; have bB6 := bB5.below hb6; have y60 := bA6.cell 0; have y61 := bA6.cell 1; have y62 := bA6.cell 2; have y63 := bB6.cell 0; have y64 := bB6.cell 1; have y65 := bB6.cell 2; simp only [List.getElem?_toArray, List.getElem?_cons_zero, List.getElem?_cons_succ] at y60 y61 y62 y63 y64 y65; have l6 := big_len (n := 4) hn6 hz6 (numZ_pw b.k hb).1 (numZ_pw b.k hb).2)
    | (go_at_call 47; have hC := fits_f m6 _ L6 w6 hd6.1 hn6 (by omega) _ hz6; (with_reducible refine hC.mono ?_); clear hC; rintro e w7 ⟨rfl, hb7⟩; have h7 : Below w.heap.size w w7 := h6.trans (hb7.mono h6.size); have bR7 := bR6.below hb7; have bA7 := bA6.below hb7; have bB7 := bB6.below hb7; have y70 := bA7.cell 0; have y71 := bA7.cell 1; have y72 := bA7.cell 2; have y73 := bB7.cell 0; have y74 := bB7.cell 1; have y75 := bB7.cell 2; simp only [List.getElem?_toArray, List.getElem?_cons_zero, List.getElem?_cons_succ] at y70 y71 y72 y73 y74 y75; rw [Fb.out]; have r0 := bR7.cell 0; have r1 := bR7.cell 1; have r2 := bR7.cell 2; have f0 := bR7.frozen 0; have f1 := bR7.frozen 1; have f2 := bR7.frozen 2; simp only [List.getElem?_toArray, List.getElem?_cons_zero, List.getElem?_cons_succ] at r0 r1 r2))
  refine bodyPost_ret ?_ rfl ⟨rfl, ?_⟩
  · simp [results, Tryz.results26, go_sem, r0, r1, r2]
  · exact (((h7.setCell (by simp; try omega) _).setCell (by simp; try omega) _).setCell (by simp; try omega) _)
set_option maxRecDepth 100000 in
set_option maxHeartbeats 8000000 in
theorem arith_d_nb (op : Int) (a b : Dat) (v : Value) (w : World) (hv : DatV w v [a, b]) (hn : hasR nullD [a, b] = false) (hop : op = 3 ∨ op = 4 ∨ op = 5 ∨ op = 6) (ha : InI a) (hb : InI b) (h1 : a.k ≠ 2) (fa : fitsB (numZ a.k a.i) = true) (fb : fitsB (numZ b.k b.i) = false) :
    Calls Tryz.prog 26 #[.int .i64 op, v] w (ResPost 0 0 4 w) := by
  have HN := Lib.hid (fun w' (hb : Below w.heap.size w w') => hasN_any [a, b] v w' (hv.below hb))
  rw [hn] at HN
  have hb0 := (Below.refl w.heap.size w).alloc (Nat.le_refl _) (.cells #[.int .i64 0, .int .i64 0, .string noText] 27)
  have bR := Blk.new w #[.int .i64 0, .int .i64 0, .string noText] 27
  obtain ⟨p, off, c, rfl, hc, hbl, ⟨x0, x1, x2⟩, x3, x4, x5⟩ := hv.two
  have hx : At3 w p off a := ⟨x0, x1, x2⟩
  have hy : At3 w p (off + 3) b := ⟨x3, x4, x5⟩
  clear hv x0 x1 x2 x3 x4 x5 hn
  unfold InI at ha hb
  have g20 : (op == 20) = false := by rcases hop with rfl | rfl | rfl | rfl <;> rfl
  have g1 : (op == 1) = false := by rcases hop with rfl | rfl | rfl | rfl <;> rfl
  have g19 : (op == 19) = false := by rcases hop with rfl | rfl | rfl | rfl <;> rfl
  have HOP := Lib.hid hop
  clear hop
  have H1 := Lib.hid h1
  clear h1
  have Fa := Lib.hid fa
  have Fb := Lib.hid fb
  clear fa fb
  go_enter Tryz.func26, Tryz.ntmps26
  go_upto_region 13 with (go_at_call 43; have hC := HN.out _ hb0; (with_reducible refine hC.mono ?_); clear hC; rintro e w3 ⟨rfl, hb3⟩; have bR3 := bR.below hb3; have h3 := hb0.trans (hb3.mono hb0.size); have hx3 := hx.below hbl h3; obtain ⟨x0, x1, x2⟩ := hx3; have hq := fun (o : Obj) => hy.below hbl (h3.alloc h3.size o); have x3 := fun o => (hq o).1; have x4 := fun o => (hq o).2.1; have x5 := fun o => (hq o).2.2; clear hq; have q3 := bR3.lt; obtain ⟨W, hW⟩ : ∃ W, (w3.alloc (.cells #[.int .i64 a.k, .int .i64 a.i, .string a.s] 27)).alloc (.cells #[.int .i64 b.k, .int .i64 b.i, .string b.s] 27) = W := ⟨_, rfl⟩; have hbW : Below w.heap.size w W := (by rw [← hW]; exact (h3.alloc h3.size _).alloc (by simp; omega) _); have bRW : Blk W w.heap.size _ _ := (by rw [← hW]; exact (bR3.alloc _).alloc _); have bA : Blk W w3.heap.size #[.int .i64 a.k, .int .i64 a.i, .string a.s] 27 := (by rw [← hW]; exact (Blk.new _ _ _).alloc _); have bB : Blk W (w3.heap.size + 1) #[.int .i64 b.k, .int .i64 b.i, .string b.s] 27 := (by rw [← hW]; exact Blk.atB (by simp)); have HW := Lib.hid hW; clear hW)
  rw [HW.out]
  clear x0 x1 x2 x3 x4 x5
  have yw0 := bA.cell 0
  have yw1 := bA.cell 1
  have yw2 := bA.cell 2
  have yw3 := bB.cell 0
  have yw4 := bB.cell 1
  have yw5 := bB.cell 2
  simp only [List.getElem?_toArray, List.getElem?_cons_zero, List.getElem?_cons_succ] at yw0 yw1 yw2 yw3 yw4 yw5
  have h1 : (a.k == 2) = false := by simpa using H1.out
  go_wp2_with (first
    | (go_at_call 46; have hC := number_f a.k a.i a.s W ha.1 ha.2; (with_reducible refine hC.mono ?_); clear hC; rintro e w4 ⟨m4, v4, L4, rfl, hd4, hn4, hz4, hb4⟩; obtain ⟨A4, c4, rfl, _, _⟩ := DigV.open hd4.1; have h4 : Below w.heap.size w w4 := hbW.trans (hb4.mono hbW.size); have bR4 := bRW.below hb4; have bA4 := bA.below hb4; have bB4 := bB.below hb4; have y40 := bA4.cell 0; have y41 := bA4.cell 1; have y42 := bA4.cell 2; have y43 := bB4.cell 0; have y44 := bB4.cell 1; have y45 := bB4.cell 2; simp only [List.getElem?_toArray, List.getElem?_cons_zero, List.getElem?_cons_succ] at y40 y41 y42 y43 y44 y45; have l4 := big_len (n := 4) hn4 hz4 (numZ_pw a.k ha).1 (numZ_pw a.k ha).2)
    | (go_at_call 47; have hC := fits_f m4 _ L4 w4 hd4.1 hn4 (by omega) _ hz4; (with_reducible refine hC.mono ?_); clear hC; rintro e w5 ⟨rfl, hb5⟩; have h5 : Below w.heap.size w w5 := h4.trans (hb5.mono h4.size); have bR5 := bR4.below hb5; have bA5 := bA4.below hb5; have bB5 := bB4.below hb5; have y50 := bA5.cell 0; have y51 := bA5.cell 1; have y52 := bA5.cell 2; have y53 := bB5.cell 0; have y54 := bB5.cell 1; have y55 := bB5.cell 2; simp only [List.getElem?_toArray, List.getElem?_cons_zero, List.getElem?_cons_succ] at y50 y51 y52 y53 y54 y55; rw [Fa.out])
    | (go_at_call 46; have hC := number_f b.k b.i b.s w5 hb.1 hb.2; (with_reducible refine hC.mono ?_); clear hC; rintro e w6 ⟨m6, v6, L6, rfl, hd6, hn6, hz6, hb6⟩; obtain ⟨A6, c6, rfl, _, _⟩ := DigV.open hd6.1; have h6 : Below w.heap.size w w6 := h5.trans (hb6.mono h5.size); have bR6 := bR5.below hb6; have bA6 := bA5.below hb6; have bB6 := bB5.below hb6; have y60 := bA6.cell 0; have y61 := bA6.cell 1; have y62 := bA6.cell 2; have y63 := bB6.cell 0; have y64 := bB6.cell 1; have y65 := bB6.cell 2; simp only [List.getElem?_toArray, List.getElem?_cons_zero, List.getElem?_cons_succ] at y60 y61 y62 y63 y64 y65; have l6 := big_len (n := 4) hn6 hz6 (numZ_pw b.k hb).1 (numZ_pw b.k hb).2)
    | (go_at_call 47; have hC := fits_f m6 _ L6 w6 hd6.1 hn6 (by omega) _ hz6; (with_reducible refine hC.mono ?_); clear hC; rintro e w7 ⟨rfl, hb7⟩; have h7 : Below w.heap.size w w7 := h6.trans (hb7.mono h6.size); have bR7 := bR6.below hb7; have bA7 := bA6.below hb7; have bB7 := bB6.below hb7; have y70 := bA7.cell 0; have y71 := bA7.cell 1; have y72 := bA7.cell 2; have y73 := bB7.cell 0; have y74 := bB7.cell 1; have y75 := bB7.cell 2; simp only [List.getElem?_toArray, List.getElem?_cons_zero, List.getElem?_cons_succ] at y70 y71 y72 y73 y74 y75; rw [Fb.out]; have r0 := bR7.cell 0; have r1 := bR7.cell 1; have r2 := bR7.cell 2; have f0 := bR7.frozen 0; have f1 := bR7.frozen 1; have f2 := bR7.frozen 2; simp only [List.getElem?_toArray, List.getElem?_cons_zero, List.getElem?_cons_succ] at r0 r1 r2))
  refine bodyPost_ret ?_ rfl ⟨rfl, ?_⟩
  · simp [results, Tryz.results26, go_sem, r0, r1, r2]
  · exact (((h7.setCell (by simp; try omega) _).setCell (by simp; try omega) _).setCell (by simp; try omega) _)
set_option maxRecDepth 100000 in
set_option maxHeartbeats 8000000 in
theorem arith_d_yes (op : Int) (a b : Dat) (v : Value) (w : World) (hv : DatV w v [a, b]) (hn : hasR nullD [a, b] = false) (hop : op = 3 ∨ op = 4 ∨ op = 5 ∨ op = 6) (ha : InI a) (hb : InI b) (h1 : a.k ≠ 2) (fa : fitsB (numZ a.k a.i) = true) (fb : fitsB (numZ b.k b.i) = true) :
    Calls Tryz.prog 26 #[.int .i64 op, v] w (ResT (twoR op 3 10000 (numZ a.k a.i) (numZ b.k b.i)) w) := by
  have HN := Lib.hid (fun w' (hb : Below w.heap.size w w') => hasN_any [a, b] v w' (hv.below hb))
  rw [hn] at HN
  have hb0 := (Below.refl w.heap.size w).alloc (Nat.le_refl _) (.cells #[.int .i64 0, .int .i64 0, .string noText] 27)
  have bR := Blk.new w #[.int .i64 0, .int .i64 0, .string noText] 27
  obtain ⟨p, off, c, rfl, hc, hbl, ⟨x0, x1, x2⟩, x3, x4, x5⟩ := hv.two
  have hx : At3 w p off a := ⟨x0, x1, x2⟩
  have hy : At3 w p (off + 3) b := ⟨x3, x4, x5⟩
  clear hv x0 x1 x2 x3 x4 x5 hn
  unfold InI at ha hb
  have g20 : (op == 20) = false := by rcases hop with rfl | rfl | rfl | rfl <;> rfl
  have g1 : (op == 1) = false := by rcases hop with rfl | rfl | rfl | rfl <;> rfl
  have g19 : (op == 19) = false := by rcases hop with rfl | rfl | rfl | rfl <;> rfl
  have HOP := Lib.hid hop
  clear hop
  have H1 := Lib.hid h1
  clear h1
  have Fa := Lib.hid fa
  have Fb := Lib.hid fb
  clear fa fb
  go_enter Tryz.func26, Tryz.ntmps26
  go_upto_region 13 with (go_at_call 43; have hC := HN.out _ hb0; (with_reducible refine hC.mono ?_); clear hC; rintro e w3 ⟨rfl, hb3⟩; have bR3 := bR.below hb3; have h3 := hb0.trans (hb3.mono hb0.size); have hx3 := hx.below hbl h3; obtain ⟨x0, x1, x2⟩ := hx3; have hq := fun (o : Obj) => hy.below hbl (h3.alloc h3.size o); have x3 := fun o => (hq o).1; have x4 := fun o => (hq o).2.1; have x5 := fun o => (hq o).2.2; clear hq; have q3 := bR3.lt; obtain ⟨W, hW⟩ : ∃ W, (w3.alloc (.cells #[.int .i64 a.k, .int .i64 a.i, .string a.s] 27)).alloc (.cells #[.int .i64 b.k, .int .i64 b.i, .string b.s] 27) = W := ⟨_, rfl⟩; have hbW : Below w.heap.size w W := (by rw [← hW]; exact (h3.alloc h3.size _).alloc (by simp; omega) _); have bRW : Blk W w.heap.size _ _ := (by rw [← hW]; exact (bR3.alloc _).alloc _); have bA : Blk W w3.heap.size #[.int .i64 a.k, .int .i64 a.i, .string a.s] 27 := (by rw [← hW]; exact (Blk.new _ _ _).alloc _); have bB : Blk W (w3.heap.size + 1) #[.int .i64 b.k, .int .i64 b.i, .string b.s] 27 := (by rw [← hW]; exact Blk.atB (by simp)); have HW := Lib.hid hW; clear hW)
  rw [HW.out]
  clear x0 x1 x2 x3 x4 x5
  have yw0 := bA.cell 0
  have yw1 := bA.cell 1
  have yw2 := bA.cell 2
  have yw3 := bB.cell 0
  have yw4 := bB.cell 1
  have yw5 := bB.cell 2
  simp only [List.getElem?_toArray, List.getElem?_cons_zero, List.getElem?_cons_succ] at yw0 yw1 yw2 yw3 yw4 yw5
  have h1 : (a.k == 2) = false := by simpa using H1.out
  go_wp2_with (first
    | (go_at_call 46; have hC := number_f a.k a.i a.s W ha.1 ha.2; (with_reducible refine hC.mono ?_); clear hC; rintro e w4 ⟨m4, v4, L4, rfl, hd4, hn4, hz4, hb4⟩; obtain ⟨A4, c4, rfl, _, _⟩ := DigV.open hd4.1; have h4 : Below w.heap.size w w4 := hbW.trans (hb4.mono hbW.size); have bR4 := bRW.below hb4; have bA4 := bA.below hb4; have bB4 := bB.below hb4; have y40 := bA4.cell 0; have y41 := bA4.cell 1; have y42 := bA4.cell 2; have y43 := bB4.cell 0; have y44 := bB4.cell 1; have y45 := bB4.cell 2; simp only [List.getElem?_toArray, List.getElem?_cons_zero, List.getElem?_cons_succ] at y40 y41 y42 y43 y44 y45; have l4 := big_len (n := 4) hn4 hz4 (numZ_pw a.k ha).1 (numZ_pw a.k ha).2)
    | (go_at_call 47; have hC := fits_f m4 _ L4 w4 hd4.1 hn4 (by omega) _ hz4; (with_reducible refine hC.mono ?_); clear hC; rintro e w5 ⟨rfl, hb5⟩; have h5 : Below w.heap.size w w5 := h4.trans (hb5.mono h4.size); have bR5 := bR4.below hb5; have bA5 := bA4.below hb5; have bB5 := bB4.below hb5; have y50 := bA5.cell 0; have y51 := bA5.cell 1; have y52 := bA5.cell 2; have y53 := bB5.cell 0; have y54 := bB5.cell 1; have y55 := bB5.cell 2; simp only [List.getElem?_toArray, List.getElem?_cons_zero, List.getElem?_cons_succ] at y50 y51 y52 y53 y54 y55; rw [Fa.out])
    | (go_at_call 46; have hC := number_f b.k b.i b.s w5 hb.1 hb.2; (with_reducible refine hC.mono ?_); clear hC; rintro e w6 ⟨m6, v6, L6, rfl, hd6, hn6, hz6, hb6⟩; obtain ⟨A6, c6, rfl, _, _⟩ := DigV.open hd6.1; have h6 : Below w.heap.size w w6 := h5.trans (hb6.mono h5.size); have bR6 := bR5.below hb6; have bA6 := bA5.below hb6; have bB6 := bB5.below hb6; have y60 := bA6.cell 0; have y61 := bA6.cell 1; have y62 := bA6.cell 2; have y63 := bB6.cell 0; have y64 := bB6.cell 1; have y65 := bB6.cell 2; simp only [List.getElem?_toArray, List.getElem?_cons_zero, List.getElem?_cons_succ] at y60 y61 y62 y63 y64 y65; have l6 := big_len (n := 4) hn6 hz6 (numZ_pw b.k hb).1 (numZ_pw b.k hb).2)
    | (go_at_call 47; have hC := fits_f m6 _ L6 w6 hd6.1 hn6 (by omega) _ hz6; (with_reducible refine hC.mono ?_); clear hC; rintro e w7 ⟨rfl, hb7⟩; have h7 : Below w.heap.size w w7 := h6.trans (hb7.mono h6.size); have bR7 := bR6.below hb7; have bA7 := bA6.below hb7; have bB7 := bB6.below hb7; have y70 := bA7.cell 0; have y71 := bA7.cell 1; have y72 := bA7.cell 2; have y73 := bB7.cell 0; have y74 := bB7.cell 1; have y75 := bB7.cell 2; simp only [List.getElem?_toArray, List.getElem?_cons_zero, List.getElem?_cons_succ] at y70 y71 y72 y73 y74 y75; rw [Fb.out]))
  go_region_held3 (fun w' => w'.cell? ⟨w3.heap.size, 0, none⟩ = some (.int .i64 a.k) ∧ w'.cell? ⟨w3.heap.size, 1, none⟩ = some (.int .i64 a.i) ∧ w'.cell? ⟨w3.heap.size, 2, none⟩ = some (.string a.s) ∧ w'.cell? ⟨w3.heap.size + 1, 0, none⟩ = some (.int .i64 b.k) ∧ w'.cell? ⟨w3.heap.size + 1, 1, none⟩ = some (.int .i64 b.i) ∧ w'.cell? ⟨w3.heap.size + 1, 2, none⟩ = some (.string b.s)) (first | exact ⟨y990, y991, y992, y993, y994, y995⟩ | exact ⟨y90, y91, y92, y93, y94, y95⟩ | exact ⟨y80, y81, y82, y83, y84, y85⟩ | exact ⟨y70, y71, y72, y73, y74, y75⟩ | exact ⟨cell_set3 (by omega) y990, cell_set3 (by omega) y991, cell_set3 (by omega) y992, cell_set3 (by omega) y993, cell_set3 (by omega) y994, cell_set3 (by omega) y995⟩) ((first
    | (go_at_call 46; have hC := number_f a.k a.i a.s w7.drew ha.1 ha.2; (with_reducible refine hC.mono ?_); clear hC; rintro e w8 ⟨m8, v8, L8, rfl, hd8, hn8, hz8, hb8⟩; obtain ⟨A8, c8, rfl, _, _⟩ := DigV.open hd8.1; have h8 : Below w.heap.size w w8 := h7.drew.trans (hb8.mono h7.drew.size); have bR8 := bR7.drew.below hb8; have bA8 := bA7.drew.below hb8; have bB8 := bB7.drew.below hb8; have y80 := bA8.cell 0; have y81 := bA8.cell 1; have y82 := bA8.cell 2; have y83 := bB8.cell 0; have y84 := bB8.cell 1; have y85 := bB8.cell 2; simp only [List.getElem?_toArray, List.getElem?_cons_zero, List.getElem?_cons_succ] at y80 y81 y82 y83 y84 y85)
    | (go_at_call 46; have hC := number_f b.k b.i b.s w8 hb.1 hb.2; (with_reducible refine hC.mono ?_); clear hC; rintro e w9 ⟨m9, v9, L9, rfl, hd9, hn9, hz9, hb9⟩; obtain ⟨A9, c9, rfl, _, _⟩ := DigV.open hd9.1; have h9 : Below w.heap.size w w9 := h8.trans (hb9.mono h8.size); have bR9 := bR8.below hb9; have bA9 := bA8.below hb9; have bB9 := bB8.below hb9; have y90 := bA9.cell 0; have y91 := bA9.cell 1; have y92 := bA9.cell 2; have y93 := bB9.cell 0; have y94 := bB9.cell 1; have y95 := bB9.cell 2; simp only [List.getElem?_toArray, List.getElem?_cons_zero, List.getElem?_cons_succ] at y90 y91 y92 y93 y94 y95)
    | (go_at_call 51; have hC := two_any op HOP.out 3 10000 (numZ a.k a.i) (numZ b.k b.i) m8 m9 _ _ L8 L9 w9 (hd8.1.below hb9) hd9.1 hn8 hn9 hz8 hz9 (numZ_inz a.k ha) (numZ_inz b.k hb) (by decide) (by decide); (with_reducible refine hC.mono ?_); clear hC; rintro e w99 ⟨rfl, hb99⟩; have h99 : Below w.heap.size w w99 := h9.trans (hb99.mono h9.size); have bR99 := bR9.below hb99; have bA99 := bA9.below hb99; have bB99 := bB9.below hb99; have y990 := bA99.cell 0; have y991 := bA99.cell 1; have y992 := bA99.cell 2; have y993 := bB99.cell 0; have y994 := bB99.cell 1; have y995 := bB99.cell 2; simp only [List.getElem?_toArray, List.getElem?_cons_zero, List.getElem?_cons_succ] at y990 y991 y992 y993 y994 y995; have r0 := bR99.cell 0; have r1 := bR99.cell 1; have r2 := bR99.cell 2; have f0 := bR99.frozen 0; have f1 := bR99.frozen 1; have f2 := bR99.frozen 2; simp only [List.getElem?_toArray, List.getElem?_cons_zero, List.getElem?_cons_succ] at r0 r1 r2)))
  go_step
  go_step
  go_wp2_with fail
  refine bodyPost_ret ?_ rfl ⟨rfl, ?_⟩
  · simp [results, Tryz.results26, go_sem, r0, r1, r2]
  · exact (((h99.setCell (by simp; try omega) _).setCell (by simp; try omega) _).setCell (by simp; try omega) _)
set_option maxRecDepth 100000 in
set_option maxHeartbeats 8000000 in
theorem arith_id_na (op : Int) (a b : Dat) (v : Value) (w : World) (hv : DatV w v [a, b]) (hn : hasR nullD [a, b] = false) (hop : op = 3 ∨ op = 4 ∨ op = 5 ∨ op = 6) (ha : InI a) (hb : InI b) (fB : Bool) (h1 : a.k = 2) (h2 : b.k ≠ 2) (fa : fitsB (numZ a.k a.i) = false) (fb : fitsB (numZ b.k b.i) = fB) :
    Calls Tryz.prog 26 #[.int .i64 op, v] w (ResPost 0 0 4 w) := by
  have HN := Lib.hid (fun w' (hb : Below w.heap.size w w') => hasN_any [a, b] v w' (hv.below hb))
  rw [hn] at HN
  have hb0 := (Below.refl w.heap.size w).alloc (Nat.le_refl _) (.cells #[.int .i64 0, .int .i64 0, .string noText] 27)
  have bR := Blk.new w #[.int .i64 0, .int .i64 0, .string noText] 27
  obtain ⟨p, off, c, rfl, hc, hbl, ⟨x0, x1, x2⟩, x3, x4, x5⟩ := hv.two
  have hx : At3 w p off a := ⟨x0, x1, x2⟩
  have hy : At3 w p (off + 3) b := ⟨x3, x4, x5⟩
  clear hv x0 x1 x2 x3 x4 x5 hn
  unfold InI at ha hb
  have g20 : (op == 20) = false := by rcases hop with rfl | rfl | rfl | rfl <;> rfl
  have g1 : (op == 1) = false := by rcases hop with rfl | rfl | rfl | rfl <;> rfl
  have g19 : (op == 19) = false := by rcases hop with rfl | rfl | rfl | rfl <;> rfl
  have HOP := Lib.hid hop
  clear hop
  have H1 := Lib.hid h1
  have H2 := Lib.hid h2
  clear h1 h2
  have Fa := Lib.hid fa
  have Fb := Lib.hid fb
  clear fa fb
  go_enter Tryz.func26, Tryz.ntmps26
  go_upto_region 13 with (go_at_call 43; have hC := HN.out _ hb0; (with_reducible refine hC.mono ?_); clear hC; rintro e w3 ⟨rfl, hb3⟩; have bR3 := bR.below hb3; have h3 := hb0.trans (hb3.mono hb0.size); have hx3 := hx.below hbl h3; obtain ⟨x0, x1, x2⟩ := hx3; have hq := fun (o : Obj) => hy.below hbl (h3.alloc h3.size o); have x3 := fun o => (hq o).1; have x4 := fun o => (hq o).2.1; have x5 := fun o => (hq o).2.2; clear hq; have q3 := bR3.lt; obtain ⟨W, hW⟩ : ∃ W, (w3.alloc (.cells #[.int .i64 a.k, .int .i64 a.i, .string a.s] 27)).alloc (.cells #[.int .i64 b.k, .int .i64 b.i, .string b.s] 27) = W := ⟨_, rfl⟩; have hbW : Below w.heap.size w W := (by rw [← hW]; exact (h3.alloc h3.size _).alloc (by simp; omega) _); have bRW : Blk W w.heap.size _ _ := (by rw [← hW]; exact (bR3.alloc _).alloc _); have bA : Blk W w3.heap.size #[.int .i64 a.k, .int .i64 a.i, .string a.s] 27 := (by rw [← hW]; exact (Blk.new _ _ _).alloc _); have bB : Blk W (w3.heap.size + 1) #[.int .i64 b.k, .int .i64 b.i, .string b.s] 27 := (by rw [← hW]; exact Blk.atB (by simp)); have HW := Lib.hid hW; clear hW)
  rw [HW.out]
  clear x0 x1 x2 x3 x4 x5
  have yw0 := bA.cell 0
  have yw1 := bA.cell 1
  have yw2 := bA.cell 2
  have yw3 := bB.cell 0
  have yw4 := bB.cell 1
  have yw5 := bB.cell 2
  simp only [List.getElem?_toArray, List.getElem?_cons_zero, List.getElem?_cons_succ] at yw0 yw1 yw2 yw3 yw4 yw5
  have h1 : (a.k == 2) = true := by simpa using H1.out
  have h2 : (b.k == 2) = false := by simpa using H2.out
  go_wp2_with (first
    | (go_at_call 46; have hC := number_f a.k a.i a.s W ha.1 ha.2; (with_reducible refine hC.mono ?_); clear hC; rintro e w4 ⟨m4, v4, L4, rfl, hd4, hn4, hz4, hb4⟩; obtain ⟨A4, c4, rfl, _, _⟩ := DigV.open hd4.1; have h4 : Below w.heap.size w w4 := hbW.trans (hb4.mono hbW.size); have bR4 := bRW.below hb4; have bA4 := bA.below hb4; have bB4 := bB.below hb4; have y40 := bA4.cell 0; have y41 := bA4.cell 1; have y42 := bA4.cell 2; have y43 := bB4.cell 0; have y44 := bB4.cell 1; have y45 := bB4.cell 2; simp only [List.getElem?_toArray, List.getElem?_cons_zero, List.getElem?_cons_succ] at y40 y41 y42 y43 y44 y45; have l4 := big_len (n := 4) hn4 hz4 (numZ_pw a.k ha).1 (numZ_pw a.k ha).2)
    | (go_at_call 47; have hC := fits_f m4 _ L4 w4 hd4.1 hn4 (by omega) _ hz4; (with_reducible refine hC.mono ?_); clear hC; rintro e w5 ⟨rfl, hb5⟩; have h5 : Below w.heap.size w w5 := h4.trans (hb5.mono h4.size); have bR5 := bR4.below hb5; have bA5 := bA4.below hb5; have bB5 := bB4.below hb5; have y50 := bA5.cell 0; have y51 := bA5.cell 1; have y52 := bA5.cell 2; have y53 := bB5.cell 0; have y54 := bB5.cell 1; have y55 := bB5.cell 2; simp only [List.getElem?_toArray, List.getElem?_cons_zero, List.getElem?_cons_succ] at y50 y51 y52 y53 y54 y55; rw [Fa.out])
    | (go_at_call 46; have hC := number_f b.k b.i b.s w5 hb.1 hb.2; (with_reducible refine hC.mono ?_); clear hC; rintro e w6 ⟨m6, v6, L6, rfl, hd6, hn6, hz6, hb6⟩; obtain ⟨A6, c6, rfl, _, _⟩ := DigV.open hd6.1; have h6 : Below w.heap.size w w6 := h5.trans (hb6.mono h5.size); have bR6 := bR5.below hb6; have bA6 := bA5.below hb6; have bB6 := bB5.below hb6; have y60 := bA6.cell 0; have y61 := bA6.cell 1; have y62 := bA6.cell 2; have y63 := bB6.cell 0; have y64 := bB6.cell 1; have y65 := bB6.cell 2; simp only [List.getElem?_toArray, List.getElem?_cons_zero, List.getElem?_cons_succ] at y60 y61 y62 y63 y64 y65; have l6 := big_len (n := 4) hn6 hz6 (numZ_pw b.k hb).1 (numZ_pw b.k hb).2)
    | (go_at_call 47; have hC := fits_f m6 _ L6 w6 hd6.1 hn6 (by omega) _ hz6; (with_reducible refine hC.mono ?_); clear hC; rintro e w7 ⟨rfl, hb7⟩; have h7 : Below w.heap.size w w7 := h6.trans (hb7.mono h6.size); have bR7 := bR6.below hb7; have bA7 := bA6.below hb7; have bB7 := bB6.below hb7; have y70 := bA7.cell 0; have y71 := bA7.cell 1; have y72 := bA7.cell 2; have y73 := bB7.cell 0; have y74 := bB7.cell 1; have y75 := bB7.cell 2; simp only [List.getElem?_toArray, List.getElem?_cons_zero, List.getElem?_cons_succ] at y70 y71 y72 y73 y74 y75; rw [Fb.out]; have r0 := bR7.cell 0; have r1 := bR7.cell 1; have r2 := bR7.cell 2; have f0 := bR7.frozen 0; have f1 := bR7.frozen 1; have f2 := bR7.frozen 2; simp only [List.getElem?_toArray, List.getElem?_cons_zero, List.getElem?_cons_succ] at r0 r1 r2))
  refine bodyPost_ret ?_ rfl ⟨rfl, ?_⟩
  · simp [results, Tryz.results26, go_sem, r0, r1, r2]
  · exact (((h7.setCell (by simp; try omega) _).setCell (by simp; try omega) _).setCell (by simp; try omega) _)
set_option maxRecDepth 100000 in
set_option maxHeartbeats 8000000 in
theorem arith_id_nb (op : Int) (a b : Dat) (v : Value) (w : World) (hv : DatV w v [a, b]) (hn : hasR nullD [a, b] = false) (hop : op = 3 ∨ op = 4 ∨ op = 5 ∨ op = 6) (ha : InI a) (hb : InI b) (h1 : a.k = 2) (h2 : b.k ≠ 2) (fa : fitsB (numZ a.k a.i) = true) (fb : fitsB (numZ b.k b.i) = false) :
    Calls Tryz.prog 26 #[.int .i64 op, v] w (ResPost 0 0 4 w) := by
  have HN := Lib.hid (fun w' (hb : Below w.heap.size w w') => hasN_any [a, b] v w' (hv.below hb))
  rw [hn] at HN
  have hb0 := (Below.refl w.heap.size w).alloc (Nat.le_refl _) (.cells #[.int .i64 0, .int .i64 0, .string noText] 27)
  have bR := Blk.new w #[.int .i64 0, .int .i64 0, .string noText] 27
  obtain ⟨p, off, c, rfl, hc, hbl, ⟨x0, x1, x2⟩, x3, x4, x5⟩ := hv.two
  have hx : At3 w p off a := ⟨x0, x1, x2⟩
  have hy : At3 w p (off + 3) b := ⟨x3, x4, x5⟩
  clear hv x0 x1 x2 x3 x4 x5 hn
  unfold InI at ha hb
  have g20 : (op == 20) = false := by rcases hop with rfl | rfl | rfl | rfl <;> rfl
  have g1 : (op == 1) = false := by rcases hop with rfl | rfl | rfl | rfl <;> rfl
  have g19 : (op == 19) = false := by rcases hop with rfl | rfl | rfl | rfl <;> rfl
  have HOP := Lib.hid hop
  clear hop
  have H1 := Lib.hid h1
  have H2 := Lib.hid h2
  clear h1 h2
  have Fa := Lib.hid fa
  have Fb := Lib.hid fb
  clear fa fb
  go_enter Tryz.func26, Tryz.ntmps26
  go_upto_region 13 with (go_at_call 43; have hC := HN.out _ hb0; (with_reducible refine hC.mono ?_); clear hC; rintro e w3 ⟨rfl, hb3⟩; have bR3 := bR.below hb3; have h3 := hb0.trans (hb3.mono hb0.size); have hx3 := hx.below hbl h3; obtain ⟨x0, x1, x2⟩ := hx3; have hq := fun (o : Obj) => hy.below hbl (h3.alloc h3.size o); have x3 := fun o => (hq o).1; have x4 := fun o => (hq o).2.1; have x5 := fun o => (hq o).2.2; clear hq; have q3 := bR3.lt; obtain ⟨W, hW⟩ : ∃ W, (w3.alloc (.cells #[.int .i64 a.k, .int .i64 a.i, .string a.s] 27)).alloc (.cells #[.int .i64 b.k, .int .i64 b.i, .string b.s] 27) = W := ⟨_, rfl⟩; have hbW : Below w.heap.size w W := (by rw [← hW]; exact (h3.alloc h3.size _).alloc (by simp; omega) _); have bRW : Blk W w.heap.size _ _ := (by rw [← hW]; exact (bR3.alloc _).alloc _); have bA : Blk W w3.heap.size #[.int .i64 a.k, .int .i64 a.i, .string a.s] 27 := (by rw [← hW]; exact (Blk.new _ _ _).alloc _); have bB : Blk W (w3.heap.size + 1) #[.int .i64 b.k, .int .i64 b.i, .string b.s] 27 := (by rw [← hW]; exact Blk.atB (by simp)); have HW := Lib.hid hW; clear hW)
  rw [HW.out]
  clear x0 x1 x2 x3 x4 x5
  have yw0 := bA.cell 0
  have yw1 := bA.cell 1
  have yw2 := bA.cell 2
  have yw3 := bB.cell 0
  have yw4 := bB.cell 1
  have yw5 := bB.cell 2
  simp only [List.getElem?_toArray, List.getElem?_cons_zero, List.getElem?_cons_succ] at yw0 yw1 yw2 yw3 yw4 yw5
  have h1 : (a.k == 2) = true := by simpa using H1.out
  have h2 : (b.k == 2) = false := by simpa using H2.out
  go_wp2_with (first
    | (go_at_call 46; have hC := number_f a.k a.i a.s W ha.1 ha.2; (with_reducible refine hC.mono ?_); clear hC; rintro e w4 ⟨m4, v4, L4, rfl, hd4, hn4, hz4, hb4⟩; obtain ⟨A4, c4, rfl, _, _⟩ := DigV.open hd4.1; have h4 : Below w.heap.size w w4 := hbW.trans (hb4.mono hbW.size); have bR4 := bRW.below hb4; have bA4 := bA.below hb4; have bB4 := bB.below hb4; have y40 := bA4.cell 0; have y41 := bA4.cell 1; have y42 := bA4.cell 2; have y43 := bB4.cell 0; have y44 := bB4.cell 1; have y45 := bB4.cell 2; simp only [List.getElem?_toArray, List.getElem?_cons_zero, List.getElem?_cons_succ] at y40 y41 y42 y43 y44 y45; have l4 := big_len (n := 4) hn4 hz4 (numZ_pw a.k ha).1 (numZ_pw a.k ha).2)
    | (go_at_call 47; have hC := fits_f m4 _ L4 w4 hd4.1 hn4 (by omega) _ hz4; (with_reducible refine hC.mono ?_); clear hC; rintro e w5 ⟨rfl, hb5⟩; have h5 : Below w.heap.size w w5 := h4.trans (hb5.mono h4.size); have bR5 := bR4.below hb5; have bA5 := bA4.below hb5; have bB5 := bB4.below hb5; have y50 := bA5.cell 0; have y51 := bA5.cell 1; have y52 := bA5.cell 2; have y53 := bB5.cell 0; have y54 := bB5.cell 1; have y55 := bB5.cell 2; simp only [List.getElem?_toArray, List.getElem?_cons_zero, List.getElem?_cons_succ] at y50 y51 y52 y53 y54 y55; rw [Fa.out])
    | (go_at_call 46; have hC := number_f b.k b.i b.s w5 hb.1 hb.2; (with_reducible refine hC.mono ?_); clear hC; rintro e w6 ⟨m6, v6, L6, rfl, hd6, hn6, hz6, hb6⟩; obtain ⟨A6, c6, rfl, _, _⟩ := DigV.open hd6.1; have h6 : Below w.heap.size w w6 := h5.trans (hb6.mono h5.size); have bR6 := bR5.below hb6; have bA6 := bA5.below hb6; have bB6 := bB5.below hb6; have y60 := bA6.cell 0; have y61 := bA6.cell 1; have y62 := bA6.cell 2; have y63 := bB6.cell 0; have y64 := bB6.cell 1; have y65 := bB6.cell 2; simp only [List.getElem?_toArray, List.getElem?_cons_zero, List.getElem?_cons_succ] at y60 y61 y62 y63 y64 y65; have l6 := big_len (n := 4) hn6 hz6 (numZ_pw b.k hb).1 (numZ_pw b.k hb).2)
    | (go_at_call 47; have hC := fits_f m6 _ L6 w6 hd6.1 hn6 (by omega) _ hz6; (with_reducible refine hC.mono ?_); clear hC; rintro e w7 ⟨rfl, hb7⟩; have h7 : Below w.heap.size w w7 := h6.trans (hb7.mono h6.size); have bR7 := bR6.below hb7; have bA7 := bA6.below hb7; have bB7 := bB6.below hb7; have y70 := bA7.cell 0; have y71 := bA7.cell 1; have y72 := bA7.cell 2; have y73 := bB7.cell 0; have y74 := bB7.cell 1; have y75 := bB7.cell 2; simp only [List.getElem?_toArray, List.getElem?_cons_zero, List.getElem?_cons_succ] at y70 y71 y72 y73 y74 y75; rw [Fb.out]; have r0 := bR7.cell 0; have r1 := bR7.cell 1; have r2 := bR7.cell 2; have f0 := bR7.frozen 0; have f1 := bR7.frozen 1; have f2 := bR7.frozen 2; simp only [List.getElem?_toArray, List.getElem?_cons_zero, List.getElem?_cons_succ] at r0 r1 r2))
  refine bodyPost_ret ?_ rfl ⟨rfl, ?_⟩
  · simp [results, Tryz.results26, go_sem, r0, r1, r2]
  · exact (((h7.setCell (by simp; try omega) _).setCell (by simp; try omega) _).setCell (by simp; try omega) _)
set_option maxRecDepth 100000 in
set_option maxHeartbeats 8000000 in
theorem arith_id_yes (op : Int) (a b : Dat) (v : Value) (w : World) (hv : DatV w v [a, b]) (hn : hasR nullD [a, b] = false) (hop : op = 3 ∨ op = 4 ∨ op = 5 ∨ op = 6) (ha : InI a) (hb : InI b) (h1 : a.k = 2) (h2 : b.k ≠ 2) (fa : fitsB (numZ a.k a.i) = true) (fb : fitsB (numZ b.k b.i) = true) :
    Calls Tryz.prog 26 #[.int .i64 op, v] w (ResT (twoR op 3 10000 (numZ a.k a.i) (numZ b.k b.i)) w) := by
  have HN := Lib.hid (fun w' (hb : Below w.heap.size w w') => hasN_any [a, b] v w' (hv.below hb))
  rw [hn] at HN
  have hb0 := (Below.refl w.heap.size w).alloc (Nat.le_refl _) (.cells #[.int .i64 0, .int .i64 0, .string noText] 27)
  have bR := Blk.new w #[.int .i64 0, .int .i64 0, .string noText] 27
  obtain ⟨p, off, c, rfl, hc, hbl, ⟨x0, x1, x2⟩, x3, x4, x5⟩ := hv.two
  have hx : At3 w p off a := ⟨x0, x1, x2⟩
  have hy : At3 w p (off + 3) b := ⟨x3, x4, x5⟩
  clear hv x0 x1 x2 x3 x4 x5 hn
  unfold InI at ha hb
  have g20 : (op == 20) = false := by rcases hop with rfl | rfl | rfl | rfl <;> rfl
  have g1 : (op == 1) = false := by rcases hop with rfl | rfl | rfl | rfl <;> rfl
  have g19 : (op == 19) = false := by rcases hop with rfl | rfl | rfl | rfl <;> rfl
  have HOP := Lib.hid hop
  clear hop
  have H1 := Lib.hid h1
  have H2 := Lib.hid h2
  clear h1 h2
  have Fa := Lib.hid fa
  have Fb := Lib.hid fb
  clear fa fb
  go_enter Tryz.func26, Tryz.ntmps26
  go_upto_region 13 with (go_at_call 43; have hC := HN.out _ hb0; (with_reducible refine hC.mono ?_); clear hC; rintro e w3 ⟨rfl, hb3⟩; have bR3 := bR.below hb3; have h3 := hb0.trans (hb3.mono hb0.size); have hx3 := hx.below hbl h3; obtain ⟨x0, x1, x2⟩ := hx3; have hq := fun (o : Obj) => hy.below hbl (h3.alloc h3.size o); have x3 := fun o => (hq o).1; have x4 := fun o => (hq o).2.1; have x5 := fun o => (hq o).2.2; clear hq; have q3 := bR3.lt; obtain ⟨W, hW⟩ : ∃ W, (w3.alloc (.cells #[.int .i64 a.k, .int .i64 a.i, .string a.s] 27)).alloc (.cells #[.int .i64 b.k, .int .i64 b.i, .string b.s] 27) = W := ⟨_, rfl⟩; have hbW : Below w.heap.size w W := (by rw [← hW]; exact (h3.alloc h3.size _).alloc (by simp; omega) _); have bRW : Blk W w.heap.size _ _ := (by rw [← hW]; exact (bR3.alloc _).alloc _); have bA : Blk W w3.heap.size #[.int .i64 a.k, .int .i64 a.i, .string a.s] 27 := (by rw [← hW]; exact (Blk.new _ _ _).alloc _); have bB : Blk W (w3.heap.size + 1) #[.int .i64 b.k, .int .i64 b.i, .string b.s] 27 := (by rw [← hW]; exact Blk.atB (by simp)); have HW := Lib.hid hW; clear hW)
  rw [HW.out]
  clear x0 x1 x2 x3 x4 x5
  have yw0 := bA.cell 0
  have yw1 := bA.cell 1
  have yw2 := bA.cell 2
  have yw3 := bB.cell 0
  have yw4 := bB.cell 1
  have yw5 := bB.cell 2
  simp only [List.getElem?_toArray, List.getElem?_cons_zero, List.getElem?_cons_succ] at yw0 yw1 yw2 yw3 yw4 yw5
  have h1 : (a.k == 2) = true := by simpa using H1.out
  have h2 : (b.k == 2) = false := by simpa using H2.out
  go_wp2_with (first
    | (go_at_call 46; have hC := number_f a.k a.i a.s W ha.1 ha.2; (with_reducible refine hC.mono ?_); clear hC; rintro e w4 ⟨m4, v4, L4, rfl, hd4, hn4, hz4, hb4⟩; obtain ⟨A4, c4, rfl, _, _⟩ := DigV.open hd4.1; have h4 : Below w.heap.size w w4 := hbW.trans (hb4.mono hbW.size); have bR4 := bRW.below hb4; have bA4 := bA.below hb4; have bB4 := bB.below hb4; have y40 := bA4.cell 0; have y41 := bA4.cell 1; have y42 := bA4.cell 2; have y43 := bB4.cell 0; have y44 := bB4.cell 1; have y45 := bB4.cell 2; simp only [List.getElem?_toArray, List.getElem?_cons_zero, List.getElem?_cons_succ] at y40 y41 y42 y43 y44 y45; have l4 := big_len (n := 4) hn4 hz4 (numZ_pw a.k ha).1 (numZ_pw a.k ha).2)
    | (go_at_call 47; have hC := fits_f m4 _ L4 w4 hd4.1 hn4 (by omega) _ hz4; (with_reducible refine hC.mono ?_); clear hC; rintro e w5 ⟨rfl, hb5⟩; have h5 : Below w.heap.size w w5 := h4.trans (hb5.mono h4.size); have bR5 := bR4.below hb5; have bA5 := bA4.below hb5; have bB5 := bB4.below hb5; have y50 := bA5.cell 0; have y51 := bA5.cell 1; have y52 := bA5.cell 2; have y53 := bB5.cell 0; have y54 := bB5.cell 1; have y55 := bB5.cell 2; simp only [List.getElem?_toArray, List.getElem?_cons_zero, List.getElem?_cons_succ] at y50 y51 y52 y53 y54 y55; rw [Fa.out])
    | (go_at_call 46; have hC := number_f b.k b.i b.s w5 hb.1 hb.2; (with_reducible refine hC.mono ?_); clear hC; rintro e w6 ⟨m6, v6, L6, rfl, hd6, hn6, hz6, hb6⟩; obtain ⟨A6, c6, rfl, _, _⟩ := DigV.open hd6.1; have h6 : Below w.heap.size w w6 := h5.trans (hb6.mono h5.size); have bR6 := bR5.below hb6; have bA6 := bA5.below hb6; have bB6 := bB5.below hb6; have y60 := bA6.cell 0; have y61 := bA6.cell 1; have y62 := bA6.cell 2; have y63 := bB6.cell 0; have y64 := bB6.cell 1; have y65 := bB6.cell 2; simp only [List.getElem?_toArray, List.getElem?_cons_zero, List.getElem?_cons_succ] at y60 y61 y62 y63 y64 y65; have l6 := big_len (n := 4) hn6 hz6 (numZ_pw b.k hb).1 (numZ_pw b.k hb).2)
    | (go_at_call 47; have hC := fits_f m6 _ L6 w6 hd6.1 hn6 (by omega) _ hz6; (with_reducible refine hC.mono ?_); clear hC; rintro e w7 ⟨rfl, hb7⟩; have h7 : Below w.heap.size w w7 := h6.trans (hb7.mono h6.size); have bR7 := bR6.below hb7; have bA7 := bA6.below hb7; have bB7 := bB6.below hb7; have y70 := bA7.cell 0; have y71 := bA7.cell 1; have y72 := bA7.cell 2; have y73 := bB7.cell 0; have y74 := bB7.cell 1; have y75 := bB7.cell 2; simp only [List.getElem?_toArray, List.getElem?_cons_zero, List.getElem?_cons_succ] at y70 y71 y72 y73 y74 y75; rw [Fb.out]))
  go_region_held3 (fun w' => w'.cell? ⟨w3.heap.size, 0, none⟩ = some (.int .i64 a.k) ∧ w'.cell? ⟨w3.heap.size, 1, none⟩ = some (.int .i64 a.i) ∧ w'.cell? ⟨w3.heap.size, 2, none⟩ = some (.string a.s) ∧ w'.cell? ⟨w3.heap.size + 1, 0, none⟩ = some (.int .i64 b.k) ∧ w'.cell? ⟨w3.heap.size + 1, 1, none⟩ = some (.int .i64 b.i) ∧ w'.cell? ⟨w3.heap.size + 1, 2, none⟩ = some (.string b.s)) (first | exact ⟨y990, y991, y992, y993, y994, y995⟩ | exact ⟨y90, y91, y92, y93, y94, y95⟩ | exact ⟨y80, y81, y82, y83, y84, y85⟩ | exact ⟨y70, y71, y72, y73, y74, y75⟩ | exact ⟨cell_set3 (by omega) y990, cell_set3 (by omega) y991, cell_set3 (by omega) y992, cell_set3 (by omega) y993, cell_set3 (by omega) y994, cell_set3 (by omega) y995⟩) ((first
    | (go_at_call 46; have hC := number_f a.k a.i a.s w7.drew ha.1 ha.2; (with_reducible refine hC.mono ?_); clear hC; rintro e w8 ⟨m8, v8, L8, rfl, hd8, hn8, hz8, hb8⟩; obtain ⟨A8, c8, rfl, _, _⟩ := DigV.open hd8.1; have h8 : Below w.heap.size w w8 := h7.drew.trans (hb8.mono h7.drew.size); have bR8 := bR7.drew.below hb8; have bA8 := bA7.drew.below hb8; have bB8 := bB7.drew.below hb8; have y80 := bA8.cell 0; have y81 := bA8.cell 1; have y82 := bA8.cell 2; have y83 := bB8.cell 0; have y84 := bB8.cell 1; have y85 := bB8.cell 2; simp only [List.getElem?_toArray, List.getElem?_cons_zero, List.getElem?_cons_succ] at y80 y81 y82 y83 y84 y85)
    | (go_at_call 46; have hC := number_f b.k b.i b.s w8 hb.1 hb.2; (with_reducible refine hC.mono ?_); clear hC; rintro e w9 ⟨m9, v9, L9, rfl, hd9, hn9, hz9, hb9⟩; obtain ⟨A9, c9, rfl, _, _⟩ := DigV.open hd9.1; have h9 : Below w.heap.size w w9 := h8.trans (hb9.mono h8.size); have bR9 := bR8.below hb9; have bA9 := bA8.below hb9; have bB9 := bB8.below hb9; have y90 := bA9.cell 0; have y91 := bA9.cell 1; have y92 := bA9.cell 2; have y93 := bB9.cell 0; have y94 := bB9.cell 1; have y95 := bB9.cell 2; simp only [List.getElem?_toArray, List.getElem?_cons_zero, List.getElem?_cons_succ] at y90 y91 y92 y93 y94 y95)
    | (go_at_call 51; have hC := two_any op HOP.out 3 10000 (numZ a.k a.i) (numZ b.k b.i) m8 m9 _ _ L8 L9 w9 (hd8.1.below hb9) hd9.1 hn8 hn9 hz8 hz9 (numZ_inz a.k ha) (numZ_inz b.k hb) (by decide) (by decide); (with_reducible refine hC.mono ?_); clear hC; rintro e w99 ⟨rfl, hb99⟩; have h99 : Below w.heap.size w w99 := h9.trans (hb99.mono h9.size); have bR99 := bR9.below hb99; have bA99 := bA9.below hb99; have bB99 := bB9.below hb99; have y990 := bA99.cell 0; have y991 := bA99.cell 1; have y992 := bA99.cell 2; have y993 := bB99.cell 0; have y994 := bB99.cell 1; have y995 := bB99.cell 2; simp only [List.getElem?_toArray, List.getElem?_cons_zero, List.getElem?_cons_succ] at y990 y991 y992 y993 y994 y995; have r0 := bR99.cell 0; have r1 := bR99.cell 1; have r2 := bR99.cell 2; have f0 := bR99.frozen 0; have f1 := bR99.frozen 1; have f2 := bR99.frozen 2; simp only [List.getElem?_toArray, List.getElem?_cons_zero, List.getElem?_cons_succ] at r0 r1 r2)))
  go_step
  go_step
  go_wp2_with fail
  refine bodyPost_ret ?_ rfl ⟨rfl, ?_⟩
  · simp [results, Tryz.results26, go_sem, r0, r1, r2]
  · exact (((h99.setCell (by simp; try omega) _).setCell (by simp; try omega) _).setCell (by simp; try omega) _)

end Go.Proofs.YtippffjhkinfoaaGreatDoor
