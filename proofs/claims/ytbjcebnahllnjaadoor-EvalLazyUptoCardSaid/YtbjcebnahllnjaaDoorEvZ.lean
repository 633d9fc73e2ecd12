/-
  EvalLazy's lit and call; what is made of them.
-/
import Derived.Test.YtbjcebnahllnjaaDoorEvEnd
namespace Go.Proofs.YtbjcebnahllnjaaDoor
open Go.RowKit

set_option maxRecDepth 100000 in
set_option maxHeartbeats 8000000 in
theorem lit_any (k i : Int) (s : ByteArray) (w : World) :
    Calls Tryd.prog 10 #[.agg #[.int .i64 k, .int .i64 i, .string s]] w fun e w' => e = .returned (.agg #[.int .i64 1, .int .i64 k, .bool false, .int .i64 k, .int .i64 i, .string s, .int .i64 0, .int .i64 0, .int .i64 0, .slice none 0 0, .slice none 0 0]) ∧ Below w.heap.size w w' := by
  go_enter Tryd.func10, Tryd.ntmps10
  go_wp2
  refine bodyPost_ret (v := .agg #[.int .i64 1, .int .i64 k, .bool false, .int .i64 k, .int .i64 i, .string s, .int .i64 0, .int .i64 0, .int .i64 0, .slice none 0 0, .slice none 0 0]) ?_ rfl ⟨rfl, ?_⟩
  · simp [results, Tryd.results10, go_sem]
  · exact ((Below.refl _ _).alloc (Nat.le_refl _) _).alloc (by simp) _

set_option maxRecDepth 100000 in
set_option maxHeartbeats 8000000 in
theorem callx_any (op : Int) (A : Option Addr) (n c : Nat) (w : World) :
    Calls Tryd.prog 11 #[.int .i64 op, .slice A n c] w fun e w' => e = .returned (.agg #[.int .i64 3, .int .i64 0, .bool false, .int .i64 0, .int .i64 0, .string noText, .int .i64 0, .int .i64 0, .int .i64 op, .slice A n c, .slice none 0 0]) ∧ Below w.heap.size w w' := by
  go_enter Tryd.func11, Tryd.ntmps11
  go_wp2
  refine bodyPost_ret (v := .agg #[.int .i64 3, .int .i64 0, .bool false, .int .i64 0, .int .i64 0, .string noText, .int .i64 0, .int .i64 0, .int .i64 op, .slice A n c, .slice none 0 0]) ?_ rfl ⟨rfl, ?_⟩
  · simp [results, Tryd.results11, go_sem]
  · exact (Below.refl _ _).alloc (Nat.le_refl _) _

theorem run_neq_same (k i : Int) (s : ByteArray) (w : World) :
    (binOp .neq 23 (.agg #[.int .i64 k, .int .i64 i, .string s]) (.agg #[.int .i64 k, .int .i64 i, .string s])).run Tryd.prog w = .ok (.bool false) w := by
  go_simp

set_option maxRecDepth 100000 in
set_option maxHeartbeats 8000000 in
theorem lazy_raw (k t : Int) (nl : Bool) (lit : Dat) (lv col op : Int) (A sA : Option Addr) (m c sn sc : Nat) (dk di : Int) (ds : ByteArray) (k12 i12 k13 i13 k14 i14 k15 i15 f : Int) (s12 s13 s14 s15 : ByteArray) (w : World)
    (HR : Hid (∀ w', Below w.heap.size w w' → Calls Tryd.prog 7 #[.agg #[.int .i64 k, .int .i64 t, .bool nl, .int .i64 lit.k, .int .i64 lit.i, .string lit.s, .int .i64 lv, .int .i64 col, .int .i64 op, .slice A m c, .slice sA sn sc], .slice none 0 0] w' (RightPost true w')))
    (HS : Hid (∀ w', Below w.heap.size w w' → Calls Tryd.prog 8 #[.agg #[.int .i64 k, .int .i64 t, .bool nl, .int .i64 lit.k, .int .i64 lit.i, .string lit.s, .int .i64 lv, .int .i64 col, .int .i64 op, .slice A m c, .slice sA sn sc]] w' (fun e w2 => ∃ A c, e = .returned (.slice A 0 c) ∧ Below w'.heap.size w' w2)))
    (H1 : Hid (∀ w', Calls Tryd.prog 9 #[.agg #[.int .i64 dk, .int .i64 di, .string ds]] w' (RightPost true w')))
    (HO : Hid (∀ w', Below w.heap.size w w' → Calls Tryd.prog 12 #[.agg #[.int .i64 k, .int .i64 t, .bool nl, .int .i64 lit.k, .int .i64 lit.i, .string lit.s, .int .i64 lv, .int .i64 col, .int .i64 op, .slice A m c, .slice sA sn sc], .slice none 0 0, .slice none 0 0] w' (ValPost (⟨k12, i12, s12⟩, f) w')))
    (H5 : Hid (∀ w' b, Below w.heap.size w w' → Blk w' b #[.int .i64 1, .int .i64 1, .bool false, .int .i64 1, .int .i64 0, .string ⟨#[]⟩, .int .i64 0, .int .i64 0, .int .i64 0, .slice none 0 0, .slice none 0 0, .int .i64 k, .int .i64 t, .bool nl, .int .i64 lit.k, .int .i64 lit.i, .string lit.s, .int .i64 lv, .int .i64 col, .int .i64 op, .slice A m c, .slice sA sn sc] 27 → Calls Tryd.prog 5 #[.agg #[.int .i64 3, .int .i64 0, .bool false, .int .i64 0, .int .i64 0, .string noText, .int .i64 0, .int .i64 0, .int .i64 13, .slice (some ⟨b, 0, none⟩) 2 2, .slice none 0 0], .slice none 0 0, .slice none 0 0] w' (ValPost (⟨1, 0, noText⟩, 0) w')))
    (H6 : Hid (∀ w' b, Below w.heap.size w w' → Blk w' b #[.int .i64 1, .int .i64 1, .bool false, .int .i64 1, .int .i64 1, .string ⟨#[]⟩, .int .i64 0, .int .i64 0, .int .i64 0, .slice none 0 0, .slice none 0 0, .int .i64 k, .int .i64 t, .bool nl, .int .i64 lit.k, .int .i64 lit.i, .string lit.s, .int .i64 lv, .int .i64 col, .int .i64 op, .slice A m c, .slice sA sn sc] 27 → Calls Tryd.prog 5 #[.agg #[.int .i64 3, .int .i64 0, .bool false, .int .i64 0, .int .i64 0, .string noText, .int .i64 0, .int .i64 0, .int .i64 14, .slice (some ⟨b, 0, none⟩) 2 2, .slice none 0 0], .slice none 0 0, .slice none 0 0] w' (ValPost (⟨1, 1, noText⟩, 0) w')))
    (H7 : Hid (∀ w' b, Below w.heap.size w w' → Blk w' b #[.int .i64 1, .int .i64 dk, .bool false, .int .i64 dk, .int .i64 di, .string ds, .int .i64 0, .int .i64 0, .int .i64 0, .slice none 0 0, .slice none 0 0, .int .i64 k, .int .i64 t, .bool nl, .int .i64 lit.k, .int .i64 lit.i, .string lit.s, .int .i64 lv, .int .i64 col, .int .i64 op, .slice A m c, .slice sA sn sc] 27 → Calls Tryd.prog 5 #[.agg #[.int .i64 3, .int .i64 0, .bool false, .int .i64 0, .int .i64 0, .string noText, .int .i64 0, .int .i64 0, .int .i64 17, .slice (some ⟨b, 0, none⟩) 2 2, .slice none 0 0], .slice none 0 0, .slice none 0 0] w' (ValPost (⟨dk, di, ds⟩, 0) w')))
    (H8 : Hid (∀ w' b, Below w.heap.size w w' → Blk w' b #[.int .i64 1, .int .i64 1, .bool false, .int .i64 1, .int .i64 0, .string ⟨#[]⟩, .int .i64 0, .int .i64 0, .int .i64 0, .slice none 0 0, .slice none 0 0, .int .i64 k, .int .i64 t, .bool nl, .int .i64 lit.k, .int .i64 lit.i, .string lit.s, .int .i64 lv, .int .i64 col, .int .i64 op, .slice A m c, .slice sA sn sc, .int .i64 1, .int .i64 dk, .bool false, .int .i64 dk, .int .i64 di, .string ds, .int .i64 0, .int .i64 0, .int .i64 0, .slice none 0 0, .slice none 0 0] 27 → Calls Tryd.prog 5 #[.agg #[.int .i64 3, .int .i64 0, .bool false, .int .i64 0, .int .i64 0, .string noText, .int .i64 0, .int .i64 0, .int .i64 16, .slice (some ⟨b, 0, none⟩) 3 3, .slice none 0 0], .slice none 0 0, .slice none 0 0] w' (ValPost (⟨dk, di, ds⟩, 0) w')))
    (H9 : Hid (∀ w' b, Below w.heap.size w w' → Blk w' b #[.int .i64 1, .int .i64 1, .bool false, .int .i64 1, .int .i64 1, .string ⟨#[]⟩, .int .i64 0, .int .i64 0, .int .i64 0, .slice none 0 0, .slice none 0 0, .int .i64 1, .int .i64 dk, .bool false, .int .i64 dk, .int .i64 di, .string ds, .int .i64 0, .int .i64 0, .int .i64 0, .slice none 0 0, .slice none 0 0, .int .i64 k, .int .i64 t, .bool nl, .int .i64 lit.k, .int .i64 lit.i, .string lit.s, .int .i64 lv, .int .i64 col, .int .i64 op, .slice A m c, .slice sA sn sc] 27 → Calls Tryd.prog 5 #[.agg #[.int .i64 3, .int .i64 0, .bool false, .int .i64 0, .int .i64 0, .string noText, .int .i64 0, .int .i64 0, .int .i64 16, .slice (some ⟨b, 0, none⟩) 3 3, .slice none 0 0], .slice none 0 0, .slice none 0 0] w' (ValPost (⟨dk, di, ds⟩, 0) w')))
    (H13 : Hid (∀ w' b, Below w.heap.size w w' → Blk w' b #[.int .i64 k, .int .i64 t, .bool nl, .int .i64 lit.k, .int .i64 lit.i, .string lit.s, .int .i64 lv, .int .i64 col, .int .i64 op, .slice A m c, .slice sA sn sc, .int .i64 1, .int .i64 dk, .bool false, .int .i64 dk, .int .i64 di, .string ds, .int .i64 0, .int .i64 0, .int .i64 0, .slice none 0 0, .slice none 0 0] 27 → Calls Tryd.prog 5 #[.agg #[.int .i64 3, .int .i64 0, .bool false, .int .i64 0, .int .i64 0, .string noText, .int .i64 0, .int .i64 0, .int .i64 17, .slice (some ⟨b, 0, none⟩) 2 2, .slice none 0 0], .slice none 0 0, .slice none 0 0] w' (ValPost (⟨k13, i13, s13⟩, f) w')))
    (H14 : Hid (∀ w' b, Below w.heap.size w w' → Blk w' b #[.int .i64 1, .int .i64 1, .bool false, .int .i64 1, .int .i64 1, .string ⟨#[]⟩, .int .i64 0, .int .i64 0, .int .i64 0, .slice none 0 0, .slice none 0 0, .int .i64 k, .int .i64 t, .bool nl, .int .i64 lit.k, .int .i64 lit.i, .string lit.s, .int .i64 lv, .int .i64 col, .int .i64 op, .slice A m c, .slice sA sn sc] 27 → Calls Tryd.prog 5 #[.agg #[.int .i64 3, .int .i64 0, .bool false, .int .i64 0, .int .i64 0, .string noText, .int .i64 0, .int .i64 0, .int .i64 16, .slice (some ⟨b, 0, none⟩) 2 2, .slice none 0 0], .slice none 0 0, .slice none 0 0] w' (ValPost (⟨k14, i14, s14⟩, f) w')))
    (H15 : Hid (∀ w' b, Below w.heap.size w w' → Blk w' b #[.int .i64 k, .int .i64 t, .bool nl, .int .i64 lit.k, .int .i64 lit.i, .string lit.s, .int .i64 lv, .int .i64 col, .int .i64 op, .slice A m c, .slice sA sn sc] 27 → Calls Tryd.prog 5 #[.agg #[.int .i64 3, .int .i64 0, .bool false, .int .i64 0, .int .i64 0, .string noText, .int .i64 0, .int .i64 0, .int .i64 15, .slice (some ⟨b, 0, none⟩) 1 1, .slice none 0 0], .slice none 0 0, .slice none 0 0] w' (ValPost (⟨k15, i15, s15⟩, f) w')))
    (hk : dk ≠ 0) :
    Calls Tryd.prog 4 #[.agg #[.int .i64 k, .int .i64 t, .bool nl, .int .i64 lit.k, .int .i64 lit.i, .string lit.s, .int .i64 lv, .int .i64 col, .int .i64 op, .slice A m c, .slice sA sn sc], .agg #[.int .i64 dk, .int .i64 di, .string ds]] w fun e w' => e = .returned (.bool true) ∧ Below w.heap.size w w' := by
  have hk' : (dk == 0) = false := beq_eq_false_iff_ne.2 hk
  have hb1 := (Below.refl w.heap.size w).alloc (Nat.le_refl _) (.cells #[.int .i64 k, .int .i64 t, .bool nl, .int .i64 lit.k, .int .i64 lit.i, .string lit.s, .int .i64 lv, .int .i64 col, .int .i64 op, .slice A m c, .slice sA sn sc] 27)
  have hb2 := hb1.alloc hb1.size (.cells #[.int .i64 dk, .int .i64 di, .string ds] 23)
  have bX := (Blk.new w #[.int .i64 k, .int .i64 t, .bool nl, .int .i64 lit.k, .int .i64 lit.i, .string lit.s, .int .i64 lv, .int .i64 col, .int .i64 op, .slice A m c, .slice sA sn sc] 27).alloc (.cells #[.int .i64 dk, .int .i64 di, .string ds] 23)
  have bD := Blk.new (w.alloc (.cells #[.int .i64 k, .int .i64 t, .bool nl, .int .i64 lit.k, .int .i64 lit.i, .string lit.s, .int .i64 lv, .int .i64 col, .int .i64 op, .slice A m c, .slice sA sn sc] 27)) #[.int .i64 dk, .int .i64 di, .string ds] 23
  rw [show (w.alloc (.cells #[.int .i64 k, .int .i64 t, .bool nl, .int .i64 lit.k, .int .i64 lit.i, .string lit.s, .int .i64 lv, .int .i64 col, .int .i64 op, .slice A m c, .slice sA sn sc] 27)).heap.size = w.heap.size + 1 by simp] at bD
  have HL := Lib.hid (fun k i s w => lit_any k i s w)
  have HC := Lib.hid (fun op A n c w => callx_any op A n c w)
  go_enter Tryd.func4, Tryd.ntmps4
  go_wp2_with (first
    | (go_at_call 7; (with_reducible refine (HR.out _ hb2).mono ?_); rintro e w3 ⟨rfl, hb3⟩; have h3 := hb2.trans (hb3.mono hb2.size); have bX3 := bX.below hb3; have bD3 := bD.below hb3; have y0 := bX3.cell 0; have y1 := bX3.cell 1; have y2 := bX3.cell 2; have y3 := bX3.cell 3; have y4 := bX3.cell 4; have y5 := bX3.cell 5; have y6 := bX3.cell 6; have y7 := bX3.cell 7; have y8 := bX3.cell 8; have y9 := bX3.cell 9; have y10 := bX3.cell 10; simp only [List.getElem?_toArray, List.getElem?_cons_zero, List.getElem?_cons_succ] at y0 y1 y2 y3 y4 y5 y6 y7 y8 y9 y10)
    | (go_at_call 8; (with_reducible refine (HS.out _ h3).mono ?_); rintro e w4 ⟨A4, c4, rfl, hb4⟩; have h4 := h3.trans (hb4.mono h3.size); have bX4 := bX3.below hb4; have bD4 := bD3.below hb4; have d0 := bD4.cell 0; have d1 := bD4.cell 1; have d2 := bD4.cell 2; simp only [List.getElem?_toArray, List.getElem?_cons_zero, List.getElem?_cons_succ] at d0 d1 d2)
    | (go_at_call 9; (with_reducible refine (H1.out _).mono ?_); rintro e w5 ⟨rfl, hb5⟩; have h5 := h4.trans (hb5.mono h4.size); have bX5 := bX4.below hb5; have bD5 := bD4.below hb5; clear d0 d1 d2; have d0 := bD5.cell 0; simp only [List.getElem?_toArray, List.getElem?_cons_zero] at d0)
    | (go_at_call 10; (with_reducible refine (HL.out 1 1 _ _).mono ?_); rintro e w6 ⟨rfl, hb6⟩; have h6 := (h5.trans (hb6.mono h5.size)).alloc (by have := h5.size; have := hb6.size; omega) (.cells #[.int .i64 1, .int .i64 1, .bool false, .int .i64 1, .int .i64 1, .string ⟨#[]⟩, .int .i64 0, .int .i64 0, .int .i64 0, .slice none 0 0, .slice none 0 0] 27); have bX6 := (bX5.below hb6).alloc (.cells #[.int .i64 1, .int .i64 1, .bool false, .int .i64 1, .int .i64 1, .string ⟨#[]⟩, .int .i64 0, .int .i64 0, .int .i64 0, .slice none 0 0, .slice none 0 0] 27); have bD6 := (bD5.below hb6).alloc (.cells #[.int .i64 1, .int .i64 1, .bool false, .int .i64 1, .int .i64 1, .string ⟨#[]⟩, .int .i64 0, .int .i64 0, .int .i64 0, .slice none 0 0, .slice none 0 0] 27); have bY6 := Blk.new w6 #[.int .i64 1, .int .i64 1, .bool false, .int .i64 1, .int .i64 1, .string ⟨#[]⟩, .int .i64 0, .int .i64 0, .int .i64 0, .slice none 0 0, .slice none 0 0] 27)
    | (go_at_call 10; (with_reducible refine (HL.out 1 0 _ _).mono ?_); rintro e w7 ⟨rfl, hb7⟩; have h7 := (h6.trans (hb7.mono h6.size)).alloc (by have := h6.size; have := hb7.size; omega) (.cells #[.int .i64 1, .int .i64 1, .bool false, .int .i64 1, .int .i64 0, .string ⟨#[]⟩, .int .i64 0, .int .i64 0, .int .i64 0, .slice none 0 0, .slice none 0 0] 27); have bX7 := (bX6.below hb7).alloc (.cells #[.int .i64 1, .int .i64 1, .bool false, .int .i64 1, .int .i64 0, .string ⟨#[]⟩, .int .i64 0, .int .i64 0, .int .i64 0, .slice none 0 0, .slice none 0 0] 27); have bD7 := (bD6.below hb7).alloc (.cells #[.int .i64 1, .int .i64 1, .bool false, .int .i64 1, .int .i64 0, .string ⟨#[]⟩, .int .i64 0, .int .i64 0, .int .i64 0, .slice none 0 0, .slice none 0 0] 27); have bY7 := (bY6.below hb7).alloc (.cells #[.int .i64 1, .int .i64 1, .bool false, .int .i64 1, .int .i64 0, .string ⟨#[]⟩, .int .i64 0, .int .i64 0, .int .i64 0, .slice none 0 0, .slice none 0 0] 27); have bN7 := Blk.new w7 #[.int .i64 1, .int .i64 1, .bool false, .int .i64 1, .int .i64 0, .string ⟨#[]⟩, .int .i64 0, .int .i64 0, .int .i64 0, .slice none 0 0, .slice none 0 0] 27; clear y0 y1 y2 y3 y4 y5 y6 y7 y8 y9 y10; have y0 := bX7.cell 0; have y1 := bX7.cell 1; have y2 := bX7.cell 2; have y3 := bX7.cell 3; have y4 := bX7.cell 4; have y5 := bX7.cell 5; have y6 := bX7.cell 6; have y7 := bX7.cell 7; have y8 := bX7.cell 8; have y9 := bX7.cell 9; have y10 := bX7.cell 10; simp only [List.getElem?_toArray, List.getElem?_cons_zero, List.getElem?_cons_succ] at y0 y1 y2 y3 y4 y5 y6 y7 y8 y9 y10)
    | (go_at_call 11; (with_reducible refine (HC.out 13 _ 2 2 _).mono ?_); rintro e w8 ⟨rfl, hb8⟩; have h8 := (h7.alloc h7.size (.cells #[.int .i64 1, .int .i64 1, .bool false, .int .i64 1, .int .i64 0, .string ⟨#[]⟩, .int .i64 0, .int .i64 0, .int .i64 0, .slice none 0 0, .slice none 0 0, .int .i64 k, .int .i64 t, .bool nl, .int .i64 lit.k, .int .i64 lit.i, .string lit.s, .int .i64 lv, .int .i64 col, .int .i64 op, .slice A m c, .slice sA sn sc] 27)).trans (hb8.mono (by have := h7.size; simp at this ⊢; omega)); have bX8 := (bX7.alloc (.cells #[.int .i64 1, .int .i64 1, .bool false, .int .i64 1, .int .i64 0, .string ⟨#[]⟩, .int .i64 0, .int .i64 0, .int .i64 0, .slice none 0 0, .slice none 0 0, .int .i64 k, .int .i64 t, .bool nl, .int .i64 lit.k, .int .i64 lit.i, .string lit.s, .int .i64 lv, .int .i64 col, .int .i64 op, .slice A m c, .slice sA sn sc] 27)).below hb8; have bD8 := (bD7.alloc (.cells #[.int .i64 1, .int .i64 1, .bool false, .int .i64 1, .int .i64 0, .string ⟨#[]⟩, .int .i64 0, .int .i64 0, .int .i64 0, .slice none 0 0, .slice none 0 0, .int .i64 k, .int .i64 t, .bool nl, .int .i64 lit.k, .int .i64 lit.i, .string lit.s, .int .i64 lv, .int .i64 col, .int .i64 op, .slice A m c, .slice sA sn sc] 27)).below hb8; have bY8 := (bY7.alloc (.cells #[.int .i64 1, .int .i64 1, .bool false, .int .i64 1, .int .i64 0, .string ⟨#[]⟩, .int .i64 0, .int .i64 0, .int .i64 0, .slice none 0 0, .slice none 0 0, .int .i64 k, .int .i64 t, .bool nl, .int .i64 lit.k, .int .i64 lit.i, .string lit.s, .int .i64 lv, .int .i64 col, .int .i64 op, .slice A m c, .slice sA sn sc] 27)).below hb8; have bN8 := (bN7.alloc (.cells #[.int .i64 1, .int .i64 1, .bool false, .int .i64 1, .int .i64 0, .string ⟨#[]⟩, .int .i64 0, .int .i64 0, .int .i64 0, .slice none 0 0, .slice none 0 0, .int .i64 k, .int .i64 t, .bool nl, .int .i64 lit.k, .int .i64 lit.i, .string lit.s, .int .i64 lv, .int .i64 col, .int .i64 op, .slice A m c, .slice sA sn sc] 27)).below hb8; have bS8 : Blk w8 (w7.heap.size + 1) #[.int .i64 1, .int .i64 1, .bool false, .int .i64 1, .int .i64 0, .string ⟨#[]⟩, .int .i64 0, .int .i64 0, .int .i64 0, .slice none 0 0, .slice none 0 0, .int .i64 k, .int .i64 t, .bool nl, .int .i64 lit.k, .int .i64 lit.i, .string lit.s, .int .i64 lv, .int .i64 col, .int .i64 op, .slice A m c, .slice sA sn sc] 27 := (by have h := (Blk.new (w7.alloc (.cells #[.int .i64 1, .int .i64 1, .bool false, .int .i64 1, .int .i64 0, .string ⟨#[]⟩, .int .i64 0, .int .i64 0, .int .i64 0, .slice none 0 0, .slice none 0 0] 27)) #[.int .i64 1, .int .i64 1, .bool false, .int .i64 1, .int .i64 0, .string ⟨#[]⟩, .int .i64 0, .int .i64 0, .int .i64 0, .slice none 0 0, .slice none 0 0, .int .i64 k, .int .i64 t, .bool nl, .int .i64 lit.k, .int .i64 lit.i, .string lit.s, .int .i64 lv, .int .i64 col, .int .i64 op, .slice A m c, .slice sA sn sc] 27).below hb8; rwa [show (w7.alloc (.cells #[.int .i64 1, .int .i64 1, .bool false, .int .i64 1, .int .i64 0, .string ⟨#[]⟩, .int .i64 0, .int .i64 0, .int .i64 0, .slice none 0 0, .slice none 0 0] 27)).heap.size = w7.heap.size + 1 by simp] at h))
    | (go_at_call 5; (with_reducible refine (H5.out _ _ h8 bS8).mono ?_); rintro e w9 ⟨rfl, hb9⟩; have h9 := (h8.trans (hb9.mono h8.size)).alloc (by have := h8.size; have := hb9.size; omega) (.cells #[.int .i64 1, .int .i64 0, .string noText] 23); have bX9 := (bX8.below hb9).alloc (.cells #[.int .i64 1, .int .i64 0, .string noText] 23); have bD9 := (bD8.below hb9).alloc (.cells #[.int .i64 1, .int .i64 0, .string noText] 23); have bY9 := (bY8.below hb9).alloc (.cells #[.int .i64 1, .int .i64 0, .string noText] 23); have bN9 := (bN8.below hb9).alloc (.cells #[.int .i64 1, .int .i64 0, .string noText] 23); have bR9 := Blk.new w9 #[.int .i64 1, .int .i64 0, .string noText] 23; (try (clear y0 y1 y2 y3 y4 y5 y6 y7 y8 y9 y10)); (try (clear v0 v1 v2 v3 v4 v5 v6 v7 v8 v9 v10)); have y0 := bX9.cell 0; have y1 := bX9.cell 1; have y2 := bX9.cell 2; have y3 := bX9.cell 3; have y4 := bX9.cell 4; have y5 := bX9.cell 5; have y6 := bX9.cell 6; have y7 := bX9.cell 7; have y8 := bX9.cell 8; have y9 := bX9.cell 9; have y10 := bX9.cell 10; simp only [List.getElem?_toArray, List.getElem?_cons_zero, List.getElem?_cons_succ] at y0 y1 y2 y3 y4 y5 y6 y7 y8 y9 y10; have v0 := bY9.cell 0; have v1 := bY9.cell 1; have v2 := bY9.cell 2; have v3 := bY9.cell 3; have v4 := bY9.cell 4; have v5 := bY9.cell 5; have v6 := bY9.cell 6; have v7 := bY9.cell 7; have v8 := bY9.cell 8; have v9 := bY9.cell 9; have v10 := bY9.cell 10; simp only [List.getElem?_toArray, List.getElem?_cons_zero, List.getElem?_cons_succ] at v0 v1 v2 v3 v4 v5 v6 v7 v8 v9 v10)
    | (go_at_call 11; (with_reducible refine (HC.out 14 _ 2 2 _).mono ?_); rintro e w10 ⟨rfl, hb10⟩; have h10 := (h9.alloc h9.size (.cells #[.int .i64 1, .int .i64 1, .bool false, .int .i64 1, .int .i64 1, .string ⟨#[]⟩, .int .i64 0, .int .i64 0, .int .i64 0, .slice none 0 0, .slice none 0 0, .int .i64 k, .int .i64 t, .bool nl, .int .i64 lit.k, .int .i64 lit.i, .string lit.s, .int .i64 lv, .int .i64 col, .int .i64 op, .slice A m c, .slice sA sn sc] 27)).trans (hb10.mono (by have := h9.size; simp at this ⊢; omega)); have bX10 := (bX9.alloc (.cells #[.int .i64 1, .int .i64 1, .bool false, .int .i64 1, .int .i64 1, .string ⟨#[]⟩, .int .i64 0, .int .i64 0, .int .i64 0, .slice none 0 0, .slice none 0 0, .int .i64 k, .int .i64 t, .bool nl, .int .i64 lit.k, .int .i64 lit.i, .string lit.s, .int .i64 lv, .int .i64 col, .int .i64 op, .slice A m c, .slice sA sn sc] 27)).below hb10; have bD10 := (bD9.alloc (.cells #[.int .i64 1, .int .i64 1, .bool false, .int .i64 1, .int .i64 1, .string ⟨#[]⟩, .int .i64 0, .int .i64 0, .int .i64 0, .slice none 0 0, .slice none 0 0, .int .i64 k, .int .i64 t, .bool nl, .int .i64 lit.k, .int .i64 lit.i, .string lit.s, .int .i64 lv, .int .i64 col, .int .i64 op, .slice A m c, .slice sA sn sc] 27)).below hb10; have bY10 := (bY9.alloc (.cells #[.int .i64 1, .int .i64 1, .bool false, .int .i64 1, .int .i64 1, .string ⟨#[]⟩, .int .i64 0, .int .i64 0, .int .i64 0, .slice none 0 0, .slice none 0 0, .int .i64 k, .int .i64 t, .bool nl, .int .i64 lit.k, .int .i64 lit.i, .string lit.s, .int .i64 lv, .int .i64 col, .int .i64 op, .slice A m c, .slice sA sn sc] 27)).below hb10; have bN10 := (bN9.alloc (.cells #[.int .i64 1, .int .i64 1, .bool false, .int .i64 1, .int .i64 1, .string ⟨#[]⟩, .int .i64 0, .int .i64 0, .int .i64 0, .slice none 0 0, .slice none 0 0, .int .i64 k, .int .i64 t, .bool nl, .int .i64 lit.k, .int .i64 lit.i, .string lit.s, .int .i64 lv, .int .i64 col, .int .i64 op, .slice A m c, .slice sA sn sc] 27)).below hb10; have bS10 : Blk w10 (w9.heap.size + 1) #[.int .i64 1, .int .i64 1, .bool false, .int .i64 1, .int .i64 1, .string ⟨#[]⟩, .int .i64 0, .int .i64 0, .int .i64 0, .slice none 0 0, .slice none 0 0, .int .i64 k, .int .i64 t, .bool nl, .int .i64 lit.k, .int .i64 lit.i, .string lit.s, .int .i64 lv, .int .i64 col, .int .i64 op, .slice A m c, .slice sA sn sc] 27 := (by have h := (Blk.new (w9.alloc (.cells #[.int .i64 1, .int .i64 0, .string noText] 23)) #[.int .i64 1, .int .i64 1, .bool false, .int .i64 1, .int .i64 1, .string ⟨#[]⟩, .int .i64 0, .int .i64 0, .int .i64 0, .slice none 0 0, .slice none 0 0, .int .i64 k, .int .i64 t, .bool nl, .int .i64 lit.k, .int .i64 lit.i, .string lit.s, .int .i64 lv, .int .i64 col, .int .i64 op, .slice A m c, .slice sA sn sc] 27).below hb10; rwa [show (w9.alloc (.cells #[.int .i64 1, .int .i64 0, .string noText] 23)).heap.size = w9.heap.size + 1 by simp] at h))
    | (go_at_call 5; (with_reducible refine (H6.out _ _ h10 bS10).mono ?_); rintro e w11 ⟨rfl, hb11⟩; have h11 := (h10.trans (hb11.mono h10.size)).alloc (by have := h10.size; have := hb11.size; omega) (.cells #[.int .i64 1, .int .i64 1, .string noText] 23); have bX11 := (bX10.below hb11).alloc (.cells #[.int .i64 1, .int .i64 1, .string noText] 23); have bD11 := (bD10.below hb11).alloc (.cells #[.int .i64 1, .int .i64 1, .string noText] 23); have bY11 := (bY10.below hb11).alloc (.cells #[.int .i64 1, .int .i64 1, .string noText] 23); have bN11 := (bN10.below hb11).alloc (.cells #[.int .i64 1, .int .i64 1, .string noText] 23); have bR11 := Blk.new w11 #[.int .i64 1, .int .i64 1, .string noText] 23; (try (clear y0 y1 y2 y3 y4 y5 y6 y7 y8 y9 y10)); (try (clear v0 v1 v2 v3 v4 v5 v6 v7 v8 v9 v10)); have y0 := bX11.cell 0; have y1 := bX11.cell 1; have y2 := bX11.cell 2; have y3 := bX11.cell 3; have y4 := bX11.cell 4; have y5 := bX11.cell 5; have y6 := bX11.cell 6; have y7 := bX11.cell 7; have y8 := bX11.cell 8; have y9 := bX11.cell 9; have y10 := bX11.cell 10; simp only [List.getElem?_toArray, List.getElem?_cons_zero, List.getElem?_cons_succ] at y0 y1 y2 y3 y4 y5 y6 y7 y8 y9 y10; have v0 := bY11.cell 0; have v1 := bY11.cell 1; have v2 := bY11.cell 2; have v3 := bY11.cell 3; have v4 := bY11.cell 4; have v5 := bY11.cell 5; have v6 := bY11.cell 6; have v7 := bY11.cell 7; have v8 := bY11.cell 8; have v9 := bY11.cell 9; have v10 := bY11.cell 10; simp only [List.getElem?_toArray, List.getElem?_cons_zero, List.getElem?_cons_succ] at v0 v1 v2 v3 v4 v5 v6 v7 v8 v9 v10))
  have hWW : ∃ W, w11.alloc (.cells #[.int .i64 1, .int .i64 1, .string noText] 23) = W := ⟨_, rfl⟩
  obtain ⟨WA, hWA⟩ := hWW
  rw [hWA] at h11 bX11 bD11 bY11 bN11 bR11 ⊢
  have bQ9 := (((bR9.alloc (.cells #[.int .i64 1, .int .i64 1, .bool false, .int .i64 1, .int .i64 1, .string ⟨#[]⟩, .int .i64 0, .int .i64 0, .int .i64 0, .slice none 0 0, .slice none 0 0, .int .i64 k, .int .i64 t, .bool nl, .int .i64 lit.k, .int .i64 lit.i, .string lit.s, .int .i64 lv, .int .i64 col, .int .i64 op, .slice A m c, .slice sA sn sc] 27)).below hb10).below hb11).alloc (.cells #[.int .i64 1, .int .i64 1, .string noText] 23)
  rw [hWA] at bQ9
  clear hWA
  go_cut [11, 12] from 64 (fun p f wx => ∃ q : Nat, p = .pointer (some ⟨q, 0, none⟩) ∧ f = .int .i64 0 ∧ Below WA.heap.size WA wx ∧ Blk wx q #[.int .i64 dk, .int .i64 di, .string ds] 23)
  case first =>
    have HL := Lib.hid (HL.out dk di ds)
    have HC := Lib.hid (fun A w => HC.out 17 A 2 2 w)
    have h11 := Lib.hid h11
    have HCW : Hid (∀ w', Below WA.heap.size WA w' → w'.cell? ⟨w.heap.size, 0, none⟩ = some (.int .i64 k) ∧ w'.cell? ⟨w.heap.size, 1, none⟩ = some (.int .i64 t) ∧ w'.cell? ⟨w.heap.size, 2, none⟩ = some (.bool nl) ∧ w'.cell? ⟨w.heap.size, 3, none⟩ = some (.int .i64 lit.k) ∧ w'.cell? ⟨w.heap.size, 4, none⟩ = some (.int .i64 lit.i) ∧ w'.cell? ⟨w.heap.size, 5, none⟩ = some (.string lit.s) ∧ w'.cell? ⟨w.heap.size, 6, none⟩ = some (.int .i64 lv) ∧ w'.cell? ⟨w.heap.size, 7, none⟩ = some (.int .i64 col) ∧ w'.cell? ⟨w.heap.size, 8, none⟩ = some (.int .i64 op) ∧ w'.cell? ⟨w.heap.size, 9, none⟩ = some (.slice A m c) ∧ w'.cell? ⟨w.heap.size, 10, none⟩ = some (.slice sA sn sc) ∧ w'.cell? ⟨w.heap.size + 1, 0, none⟩ = some (.int .i64 dk) ∧ w'.cell? ⟨w.heap.size + 1, 1, none⟩ = some (.int .i64 di) ∧ w'.cell? ⟨w.heap.size + 1, 2, none⟩ = some (.string ds)) := by
      intro w' hw'
      have y_ := bX11.below hw'; have y0 := y_.cell 0; have y1 := y_.cell 1; have y2 := y_.cell 2; have y3 := y_.cell 3; have y4 := y_.cell 4; have y5 := y_.cell 5; have y6 := y_.cell 6; have y7 := y_.cell 7; have y8 := y_.cell 8; have y9 := y_.cell 9; have y10 := y_.cell 10; simp only [List.getElem?_toArray, List.getElem?_cons_zero, List.getElem?_cons_succ] at y0 y1 y2 y3 y4 y5 y6 y7 y8 y9 y10; have d_ := bD11.below hw'; have d0 := d_.cell 0; have d1 := d_.cell 1; have d2 := d_.cell 2; simp only [List.getElem?_toArray, List.getElem?_cons_zero, List.getElem?_cons_succ] at d0 d1 d2
      exact ⟨y0, y1, y2, y3, y4, y5, y6, y7, y8, y9, y10, d0, d1, d2⟩
    try clear HR
    try clear HS
    try clear H1
    try clear HO
    try clear H5
    try clear H6
    try clear H8
    try clear H9
    try clear H13
    try clear H14
    try clear H15
    try clear e13
    try clear e14
    try clear e15
    try clear hk
    try clear hk'
    try clear hb1
    try clear hb2
    try clear bX
    try clear bD
    try clear hb3
    try clear h3
    try clear bX3
    try clear bD3
    try clear hb4
    try clear h4
    try clear bX4
    try clear bD4
    try clear d0
    try clear d1
    try clear d2
    try clear hb5
    try clear h5
    try clear bX5
    try clear bD5
    try clear hb6
    try clear h6
    try clear bX6
    try clear bD6
    try clear bY6
    try clear hb7
    try clear h7
    try clear bX7
    try clear bD7
    try clear bY7
    try clear bN7
    try clear hb8
    try clear bX8
    try clear bD8
    try clear bY8
    try clear bN8
    try clear bS8
    try clear bR8
    try clear hb9
    try clear bX9
    try clear bD9
    try clear bY9
    try clear bN9
    try clear bS9
    try clear bR9
    try clear hb10
    try clear bX10
    try clear bD10
    try clear bY10
    try clear bN10
    try clear bS10
    try clear bR10
    try clear hb11
    try clear bY11
    try clear bN11
    try clear bS11
    try clear bR11
    try clear bQ9
    try clear h8
    try clear h9
    try clear h10
    try clear y0
    try clear y1
    try clear y2
    try clear y3
    try clear y4
    try clear y5
    try clear y6
    try clear y7
    try clear y8
    try clear y9
    try clear y10
    try clear v0
    try clear v1
    try clear v2
    try clear v3
    try clear v4
    try clear v5
    try clear v6
    try clear v7
    try clear v8
    try clear v9
    try clear v10
    have ly := bX11.lt
    have ld := bD11.lt
    have l11 := h11.out.size
    go_region_held3 (fun w' => w'.cell? ⟨w.heap.size, 0, none⟩ = some (.int .i64 k) ∧ w'.cell? ⟨w.heap.size, 1, none⟩ = some (.int .i64 t) ∧ w'.cell? ⟨w.heap.size, 2, none⟩ = some (.bool nl) ∧ w'.cell? ⟨w.heap.size, 3, none⟩ = some (.int .i64 lit.k) ∧ w'.cell? ⟨w.heap.size, 4, none⟩ = some (.int .i64 lit.i) ∧ w'.cell? ⟨w.heap.size, 5, none⟩ = some (.string lit.s) ∧ w'.cell? ⟨w.heap.size, 6, none⟩ = some (.int .i64 lv) ∧ w'.cell? ⟨w.heap.size, 7, none⟩ = some (.int .i64 col) ∧ w'.cell? ⟨w.heap.size, 8, none⟩ = some (.int .i64 op) ∧ w'.cell? ⟨w.heap.size, 9, none⟩ = some (.slice A m c) ∧ w'.cell? ⟨w.heap.size, 10, none⟩ = some (.slice sA sn sc) ∧ w'.cell? ⟨w.heap.size + 1, 0, none⟩ = some (.int .i64 dk) ∧ w'.cell? ⟨w.heap.size + 1, 1, none⟩ = some (.int .i64 di) ∧ w'.cell? ⟨w.heap.size + 1, 2, none⟩ = some (.string ds)) (first | exact HCW.out _ (Below.refl _ _) | exact HCW.out _ (Below.refl _ _).drew | exact HCW.out _ ((Below.refl _ _).alloc (Nat.le_refl _) _) | exact HCW.out _ ((Below.refl _ _).drew.alloc (by simp) _) | exact HCW.out _ ((Below.refl _ _).alloc (Nat.le_refl _) _).drew | exact HCW.out _ gv | exact HCW.out _ (gv.alloc gv.size _) | exact HCW.out _ gc | exact HCW.out _ (gc.alloc gc.size _) | exact HCW.out _ gb | exact HCW.out _ (gb.alloc gb.size _) | exact HCW.out _ ((gb.alloc gb.size _).alloc (by have := gb.size; simp; omega) _) | exact HCW.out _ (((gv.setCell (by simp; try omega) _).setCell (by simp; try omega) _).setCell (by simp; try omega) _)) ((first
      | (go_at_call 10; (with_reducible refine (HL.out _).mono ?_); rintro e xa ⟨rfl, hbb⟩; have gb : Below WA.heap.size WA xa := Below.trans (by first | exact (Below.refl _ _).drew | exact ((Below.refl _ _).alloc (Nat.le_refl _) _).drew | exact ((Below.refl _ _).drew.alloc (by simp) _)) (hbb.mono (by simp)); have szb := gb.size; (try (have bz : Blk xa WA.heap.size #[.int .i64 0, .int .i64 0, .string noText] 23 := Blk.below (by first | exact (Blk.new WA _ _).drew | exact Blk.new WA.drew _ _) hbb; have z0 := bz.cell 0; have z1 := bz.cell 1; have z2 := bz.cell 2; simp only [List.getElem?_toArray, List.getElem?_cons_zero, List.getElem?_cons_succ] at z0 z1 z2; have zf0 := bz.frozen 0; have zf1 := bz.frozen 1; have zf2 := bz.frozen 2)))
      | (go_at_call 11; (with_reducible refine (HC.out _ _).mono ?_); rintro e xb ⟨rfl, hbc⟩; have gc : Below WA.heap.size WA xb := Below.trans (by first | exact gb.alloc gb.size _ | exact (gb.alloc gb.size _).alloc (by have := gb.size; simp; omega) _) (hbc.mono (by have := gb.size; simp; omega)); have szc := gc.size; (try (have bzc : Blk xb WA.heap.size #[.int .i64 0, .int .i64 0, .string noText] 23 := Blk.below (bz.alloc _) hbc; (try (clear z0 z1 z2 zf0 zf1 zf2)); have z0 := bzc.cell 0; have z1 := bzc.cell 1; have z2 := bzc.cell 2; simp only [List.getElem?_toArray, List.getElem?_cons_zero, List.getElem?_cons_succ] at z0 z1 z2; have zf0 := bzc.frozen 0; have zf1 := bzc.frozen 1; have zf2 := bzc.frozen 2)); (try (have bzd : Blk xb xa.heap.size #[.int .i64 0, .int .i64 0, .string noText] 23 := Blk.below ((Blk.new xa _ _).alloc _) hbc; have z0 := bzd.cell 0; have z1 := bzd.cell 1; have z2 := bzd.cell 2; simp only [List.getElem?_toArray, List.getElem?_cons_zero, List.getElem?_cons_succ] at z0 z1 z2; have zf0 := bzd.frozen 0; have zf1 := bzd.frozen 1; have zf2 := bzd.frozen 2)); (try (have bze : Blk xb (xa.heap.size + 1) #[.int .i64 0, .int .i64 0, .string noText] 23 := Blk.below (by have h := Blk.new (xa.alloc (.cells #[.int .i64 1, .int .i64 dk, .bool false, .int .i64 dk, .int .i64 di, .string ds, .int .i64 0, .int .i64 0, .int .i64 0, .slice none 0 0, .slice none 0 0, .int .i64 k, .int .i64 t, .bool nl, .int .i64 lit.k, .int .i64 lit.i, .string lit.s, .int .i64 lv, .int .i64 col, .int .i64 op, .slice A m c, .slice sA sn sc] 27)) #[.int .i64 0, .int .i64 0, .string noText] 23; rwa [show (xa.alloc (.cells #[.int .i64 1, .int .i64 dk, .bool false, .int .i64 dk, .int .i64 di, .string ds, .int .i64 0, .int .i64 0, .int .i64 0, .slice none 0 0, .slice none 0 0, .int .i64 k, .int .i64 t, .bool nl, .int .i64 lit.k, .int .i64 lit.i, .string lit.s, .int .i64 lv, .int .i64 col, .int .i64 op, .slice A m c, .slice sA sn sc] 27)).heap.size = xa.heap.size + 1 by simp] at h) hbc; have z0 := bze.cell 0; have z1 := bze.cell 1; have z2 := bze.cell 2; simp only [List.getElem?_toArray, List.getElem?_cons_zero, List.getElem?_cons_succ] at z0 z1 z2; have zf0 := bze.frozen 0; have zf1 := bze.frozen 1; have zf2 := bze.frozen 2)))
      | (go_at_call 5; (with_reducible refine (H7.out _ _ (Below.trans h11.out (Below.mono (w := WA) (by first | exact gc | exact gc.alloc gc.size _) h11.out.size)) (by first | exact (Blk.new xa _ _).below hbc | exact ((Blk.new xa _ _).alloc _).below hbc | exact ((Blk.new xa _ _).below hbc).alloc _ | (have h := (Blk.new (xa.alloc (.cells #[.int .i64 0, .int .i64 0, .string noText] 23)) #[.int .i64 1, .int .i64 dk, .bool false, .int .i64 dk, .int .i64 di, .string ds, .int .i64 0, .int .i64 0, .int .i64 0, .slice none 0 0, .slice none 0 0, .int .i64 k, .int .i64 t, .bool nl, .int .i64 lit.k, .int .i64 lit.i, .string lit.s, .int .i64 lv, .int .i64 col, .int .i64 op, .slice A m c, .slice sA sn sc] 27).below hbc; rwa [show (xa.alloc (.cells #[.int .i64 0, .int .i64 0, .string noText] 23)).heap.size = xa.heap.size + 1 by simp] at h))).mono ?_); rintro e xc ⟨rfl, hbv⟩; have gv : Below WA.heap.size WA xc := Below.trans (by first | exact gc | exact gc.alloc gc.size _) (hbv.mono (by have := gc.size; simp; try omega)); have szv := gv.size; (try (have bzv : Blk xc WA.heap.size #[.int .i64 0, .int .i64 0, .string noText] 23 := Blk.below bzc hbv; (try (clear z0 z1 z2 zf0 zf1 zf2)); have z0 := bzv.cell 0; have z1 := bzv.cell 1; have z2 := bzv.cell 2; simp only [List.getElem?_toArray, List.getElem?_cons_zero, List.getElem?_cons_succ] at z0 z1 z2; have zf0 := bzv.frozen 0; have zf1 := bzv.frozen 1; have zf2 := bzv.frozen 2)); (try (have bzw : Blk xc xa.heap.size #[.int .i64 0, .int .i64 0, .string noText] 23 := Blk.below bzd hbv; (try (clear z0 z1 z2 zf0 zf1 zf2)); have z0 := bzw.cell 0; have z1 := bzw.cell 1; have z2 := bzw.cell 2; simp only [List.getElem?_toArray, List.getElem?_cons_zero, List.getElem?_cons_succ] at z0 z1 z2; have zf0 := bzw.frozen 0; have zf1 := bzw.frozen 1; have zf2 := bzw.frozen 2)); (try (have bzx : Blk xc (xa.heap.size + 1) #[.int .i64 0, .int .i64 0, .string noText] 23 := Blk.below bze hbv; (try (clear z0 z1 z2 zf0 zf1 zf2)); have z0 := bzx.cell 0; have z1 := bzx.cell 1; have z2 := bzx.cell 2; simp only [List.getElem?_toArray, List.getElem?_cons_zero, List.getElem?_cons_succ] at z0 z1 z2; have zf0 := bzx.frozen 0; have zf1 := bzx.frozen 1; have zf2 := bzx.frozen 2)); (try (have bzy : Blk xc xb.heap.size #[.int .i64 0, .int .i64 0, .string noText] 23 := Blk.below (Blk.new xb _ _) hbv; have z0 := bzy.cell 0; have z1 := bzy.cell 1; have z2 := bzy.cell 2; simp only [List.getElem?_toArray, List.getElem?_cons_zero, List.getElem?_cons_succ] at z0 z1 z2; have zf0 := bzy.frozen 0; have zf1 := bzy.frozen 1; have zf2 := bzy.frozen 2)))))
    all_goals
      go_step
      go_step
      go_meet
      first
        | exact ⟨_, rfl, rfl, gv.alloc gv.size _, Blk.new _ _ _⟩
        | exact ⟨_, rfl, rfl, (((gv.setCell (by simp; try omega) _).setCell (by simp; try omega) _).setCell (by simp; try omega) _), by simpa using ((bzv.set 0 (.int .i64 dk)).set 1 (.int .i64 di)).set 2 (.string ds)⟩
        | exact ⟨_, rfl, rfl, (((gv.setCell (by simp; try omega) _).setCell (by simp; try omega) _).setCell (by simp; try omega) _), by simpa using ((bzw.set 0 (.int .i64 dk)).set 1 (.int .i64 di)).set 2 (.string ds)⟩
        | exact ⟨_, rfl, rfl, (((gv.setCell (by simp; try omega) _).setCell (by simp; try omega) _).setCell (by simp; try omega) _), by simpa using ((bzx.set 0 (.int .i64 dk)).set 1 (.int .i64 di)).set 2 (.string ds)⟩
        | exact ⟨_, rfl, rfl, (((gv.setCell (by simp; try omega) _).setCell (by simp; try omega) _).setCell (by simp; try omega) _), by simpa using ((bzy.set 0 (.int .i64 dk)).set 1 (.int .i64 di)).set 2 (.string ds)⟩
        | trace_state
  case rest =>
    obtain ⟨q7, rfl, rfl, hB12, bR12⟩ := hcut
    have h12 := h11.trans (hB12.mono h11.size)
    have bX12 := bX11.below hB12
    have bD12 := bD11.below hB12
    have bY12 := bY11.below hB12
    have bN12 := bN11.below hB12
    have bQ12 := bQ9.below hB12
    have bP12 := bR11.below hB12
    clear hB12
    go_wp2_with fail
    go_cut [13, 14] from 73 (fun p f wx => ∃ q : Nat, p = .pointer (some ⟨q, 0, none⟩) ∧ f = .int .i64 0 ∧ Below wc.heap.size wc wx ∧ Blk wx q #[.int .i64 dk, .int .i64 di, .string ds] 23)
    case first =>
      have HL := Lib.hid (HL.out dk di ds)
      have HC := Lib.hid (fun A w => HC.out 16 A 3 3 w)
      have h12 := Lib.hid h12
      have HCW : Hid (∀ w', Below wc.heap.size wc w' → w'.cell? ⟨w.heap.size, 0, none⟩ = some (.int .i64 k) ∧ w'.cell? ⟨w.heap.size, 1, none⟩ = some (.int .i64 t) ∧ w'.cell? ⟨w.heap.size, 2, none⟩ = some (.bool nl) ∧ w'.cell? ⟨w.heap.size, 3, none⟩ = some (.int .i64 lit.k) ∧ w'.cell? ⟨w.heap.size, 4, none⟩ = some (.int .i64 lit.i) ∧ w'.cell? ⟨w.heap.size, 5, none⟩ = some (.string lit.s) ∧ w'.cell? ⟨w.heap.size, 6, none⟩ = some (.int .i64 lv) ∧ w'.cell? ⟨w.heap.size, 7, none⟩ = some (.int .i64 col) ∧ w'.cell? ⟨w.heap.size, 8, none⟩ = some (.int .i64 op) ∧ w'.cell? ⟨w.heap.size, 9, none⟩ = some (.slice A m c) ∧ w'.cell? ⟨w.heap.size, 10, none⟩ = some (.slice sA sn sc) ∧ w'.cell? ⟨w.heap.size + 1, 0, none⟩ = some (.int .i64 dk) ∧ w'.cell? ⟨w.heap.size + 1, 1, none⟩ = some (.int .i64 di) ∧ w'.cell? ⟨w.heap.size + 1, 2, none⟩ = some (.string ds) ∧ w'.cell? ⟨w7.heap.size, 0, none⟩ = some (.int .i64 1) ∧ w'.cell? ⟨w7.heap.size, 1, none⟩ = some (.int .i64 1) ∧ w'.cell? ⟨w7.heap.size, 2, none⟩ = some (.bool false) ∧ w'.cell? ⟨w7.heap.size, 3, none⟩ = some (.int .i64 1) ∧ w'.cell? ⟨w7.heap.size, 4, none⟩ = some (.int .i64 0) ∧ w'.cell? ⟨w7.heap.size, 5, none⟩ = some (.string ⟨#[]⟩) ∧ w'.cell? ⟨w7.heap.size, 6, none⟩ = some (.int .i64 0) ∧ w'.cell? ⟨w7.heap.size, 7, none⟩ = some (.int .i64 0) ∧ w'.cell? ⟨w7.heap.size, 8, none⟩ = some (.int .i64 0) ∧ w'.cell? ⟨w7.heap.size, 9, none⟩ = some (.slice none 0 0) ∧ w'.cell? ⟨w7.heap.size, 10, none⟩ = some (.slice none 0 0)) := by
        intro w' hw'
        have y_ := bX12.below hw'; have y0 := y_.cell 0; have y1 := y_.cell 1; have y2 := y_.cell 2; have y3 := y_.cell 3; have y4 := y_.cell 4; have y5 := y_.cell 5; have y6 := y_.cell 6; have y7 := y_.cell 7; have y8 := y_.cell 8; have y9 := y_.cell 9; have y10 := y_.cell 10; simp only [List.getElem?_toArray, List.getElem?_cons_zero, List.getElem?_cons_succ] at y0 y1 y2 y3 y4 y5 y6 y7 y8 y9 y10; have d_ := bD12.below hw'; have d0 := d_.cell 0; have d1 := d_.cell 1; have d2 := d_.cell 2; simp only [List.getElem?_toArray, List.getElem?_cons_zero, List.getElem?_cons_succ] at d0 d1 d2; have n_ := bN12.below hw'; have n0 := n_.cell 0; have n1 := n_.cell 1; have n2 := n_.cell 2; have n3 := n_.cell 3; have n4 := n_.cell 4; have n5 := n_.cell 5; have n6 := n_.cell 6; have n7 := n_.cell 7; have n8 := n_.cell 8; have n9 := n_.cell 9; have n10 := n_.cell 10; simp only [List.getElem?_toArray, List.getElem?_cons_zero, List.getElem?_cons_succ] at n0 n1 n2 n3 n4 n5 n6 n7 n8 n9 n10
        exact ⟨y0, y1, y2, y3, y4, y5, y6, y7, y8, y9, y10, d0, d1, d2, n0, n1, n2, n3, n4, n5, n6, n7, n8, n9, n10⟩
      try clear HR
      try clear HS
      try clear H1
      try clear HO
      try clear H5
      try clear H6
      try clear H7
      try clear H9
      try clear H13
      try clear H14
      try clear H15
      try clear e13
      try clear e14
      try clear e15
      try clear hk
      try clear hk'
      try clear hb1
      try clear hb2
      try clear bX
      try clear bD
      try clear hb3
      try clear h3
      try clear bX3
      try clear bD3
      try clear hb4
      try clear h4
      try clear bX4
      try clear bD4
      try clear d0
      try clear d1
      try clear d2
      try clear hb5
      try clear h5
      try clear bX5
      try clear bD5
      try clear hb6
      try clear h6
      try clear bX6
      try clear bD6
      try clear bY6
      try clear hb7
      try clear h7
      try clear bX7
      try clear bD7
      try clear bY7
      try clear bN7
      try clear hb8
      try clear bX8
      try clear bD8
      try clear bY8
      try clear bN8
      try clear bS8
      try clear bR8
      try clear hb9
      try clear bX9
      try clear bD9
      try clear bY9
      try clear bN9
      try clear bS9
      try clear bR9
      try clear hb10
      try clear bX10
      try clear bD10
      try clear bY10
      try clear bN10
      try clear bS10
      try clear bR10
      try clear hb11
      try clear bX11
      try clear bD11
      try clear bY11
      try clear bN11
      try clear bS11
      try clear bR11
      try clear bQ9
      try clear h8
      try clear h9
      try clear h10
      try clear bY12
      try clear bQ12
      try clear bP12
      try clear bR12
      try clear h11
      try clear hB12
      try clear y0
      try clear y1
      try clear y2
      try clear y3
      try clear y4
      try clear y5
      try clear y6
      try clear y7
      try clear y8
      try clear y9
      try clear y10
      try clear v0
      try clear v1
      try clear v2
      try clear v3
      try clear v4
      try clear v5
      try clear v6
      try clear v7
      try clear v8
      try clear v9
      try clear v10
      have ly := bX12.lt
      have ld := bD12.lt
      have ln := bN12.lt
      have l11 := h12.out.size
      go_region_held3 (fun w' => w'.cell? ⟨w.heap.size, 0, none⟩ = some (.int .i64 k) ∧ w'.cell? ⟨w.heap.size, 1, none⟩ = some (.int .i64 t) ∧ w'.cell? ⟨w.heap.size, 2, none⟩ = some (.bool nl) ∧ w'.cell? ⟨w.heap.size, 3, none⟩ = some (.int .i64 lit.k) ∧ w'.cell? ⟨w.heap.size, 4, none⟩ = some (.int .i64 lit.i) ∧ w'.cell? ⟨w.heap.size, 5, none⟩ = some (.string lit.s) ∧ w'.cell? ⟨w.heap.size, 6, none⟩ = some (.int .i64 lv) ∧ w'.cell? ⟨w.heap.size, 7, none⟩ = some (.int .i64 col) ∧ w'.cell? ⟨w.heap.size, 8, none⟩ = some (.int .i64 op) ∧ w'.cell? ⟨w.heap.size, 9, none⟩ = some (.slice A m c) ∧ w'.cell? ⟨w.heap.size, 10, none⟩ = some (.slice sA sn sc) ∧ w'.cell? ⟨w.heap.size + 1, 0, none⟩ = some (.int .i64 dk) ∧ w'.cell? ⟨w.heap.size + 1, 1, none⟩ = some (.int .i64 di) ∧ w'.cell? ⟨w.heap.size + 1, 2, none⟩ = some (.string ds) ∧ w'.cell? ⟨w7.heap.size, 0, none⟩ = some (.int .i64 1) ∧ w'.cell? ⟨w7.heap.size, 1, none⟩ = some (.int .i64 1) ∧ w'.cell? ⟨w7.heap.size, 2, none⟩ = some (.bool false) ∧ w'.cell? ⟨w7.heap.size, 3, none⟩ = some (.int .i64 1) ∧ w'.cell? ⟨w7.heap.size, 4, none⟩ = some (.int .i64 0) ∧ w'.cell? ⟨w7.heap.size, 5, none⟩ = some (.string ⟨#[]⟩) ∧ w'.cell? ⟨w7.heap.size, 6, none⟩ = some (.int .i64 0) ∧ w'.cell? ⟨w7.heap.size, 7, none⟩ = some (.int .i64 0) ∧ w'.cell? ⟨w7.heap.size, 8, none⟩ = some (.int .i64 0) ∧ w'.cell? ⟨w7.heap.size, 9, none⟩ = some (.slice none 0 0) ∧ w'.cell? ⟨w7.heap.size, 10, none⟩ = some (.slice none 0 0)) (first | exact HCW.out _ (Below.refl _ _) | exact HCW.out _ (Below.refl _ _).drew | exact HCW.out _ ((Below.refl _ _).alloc (Nat.le_refl _) _) | exact HCW.out _ ((Below.refl _ _).drew.alloc (by simp) _) | exact HCW.out _ ((Below.refl _ _).alloc (Nat.le_refl _) _).drew | exact HCW.out _ gv | exact HCW.out _ (gv.alloc gv.size _) | exact HCW.out _ gc | exact HCW.out _ (gc.alloc gc.size _) | exact HCW.out _ gb | exact HCW.out _ (gb.alloc gb.size _) | exact HCW.out _ ((gb.alloc gb.size _).alloc (by have := gb.size; simp; omega) _) | exact HCW.out _ (((gv.setCell (by simp; try omega) _).setCell (by simp; try omega) _).setCell (by simp; try omega) _)) ((first
        | (go_at_call 10; (with_reducible refine (HL.out _).mono ?_); rintro e xa ⟨rfl, hbb⟩; have gb : Below wc.heap.size wc xa := Below.trans (by first | exact (Below.refl _ _).drew | exact ((Below.refl _ _).alloc (Nat.le_refl _) _).drew | exact ((Below.refl _ _).drew.alloc (by simp) _)) (hbb.mono (by simp)); have szb := gb.size; (try (have bz : Blk xa wc.heap.size #[.int .i64 0, .int .i64 0, .string noText] 23 := Blk.below (by first | exact (Blk.new wc _ _).drew | exact Blk.new wc.drew _ _) hbb; have z0 := bz.cell 0; have z1 := bz.cell 1; have z2 := bz.cell 2; simp only [List.getElem?_toArray, List.getElem?_cons_zero, List.getElem?_cons_succ] at z0 z1 z2; have zf0 := bz.frozen 0; have zf1 := bz.frozen 1; have zf2 := bz.frozen 2)))
        | (go_at_call 11; (with_reducible refine (HC.out _ _).mono ?_); rintro e xb ⟨rfl, hbc⟩; have gc : Below wc.heap.size wc xb := Below.trans (by first | exact gb.alloc gb.size _ | exact (gb.alloc gb.size _).alloc (by have := gb.size; simp; omega) _) (hbc.mono (by have := gb.size; simp; omega)); have szc := gc.size; (try (have bzc : Blk xb wc.heap.size #[.int .i64 0, .int .i64 0, .string noText] 23 := Blk.below (bz.alloc _) hbc; (try (clear z0 z1 z2 zf0 zf1 zf2)); have z0 := bzc.cell 0; have z1 := bzc.cell 1; have z2 := bzc.cell 2; simp only [List.getElem?_toArray, List.getElem?_cons_zero, List.getElem?_cons_succ] at z0 z1 z2; have zf0 := bzc.frozen 0; have zf1 := bzc.frozen 1; have zf2 := bzc.frozen 2)); (try (have bzd : Blk xb xa.heap.size #[.int .i64 0, .int .i64 0, .string noText] 23 := Blk.below ((Blk.new xa _ _).alloc _) hbc; have z0 := bzd.cell 0; have z1 := bzd.cell 1; have z2 := bzd.cell 2; simp only [List.getElem?_toArray, List.getElem?_cons_zero, List.getElem?_cons_succ] at z0 z1 z2; have zf0 := bzd.frozen 0; have zf1 := bzd.frozen 1; have zf2 := bzd.frozen 2)); (try (have bze : Blk xb (xa.heap.size + 1) #[.int .i64 0, .int .i64 0, .string noText] 23 := Blk.below (by have h := Blk.new (xa.alloc (.cells #[.int .i64 1, .int .i64 1, .bool false, .int .i64 1, .int .i64 0, .string ⟨#[]⟩, .int .i64 0, .int .i64 0, .int .i64 0, .slice none 0 0, .slice none 0 0, .int .i64 k, .int .i64 t, .bool nl, .int .i64 lit.k, .int .i64 lit.i, .string lit.s, .int .i64 lv, .int .i64 col, .int .i64 op, .slice A m c, .slice sA sn sc, .int .i64 1, .int .i64 dk, .bool false, .int .i64 dk, .int .i64 di, .string ds, .int .i64 0, .int .i64 0, .int .i64 0, .slice none 0 0, .slice none 0 0] 27)) #[.int .i64 0, .int .i64 0, .string noText] 23; rwa [show (xa.alloc (.cells #[.int .i64 1, .int .i64 1, .bool false, .int .i64 1, .int .i64 0, .string ⟨#[]⟩, .int .i64 0, .int .i64 0, .int .i64 0, .slice none 0 0, .slice none 0 0, .int .i64 k, .int .i64 t, .bool nl, .int .i64 lit.k, .int .i64 lit.i, .string lit.s, .int .i64 lv, .int .i64 col, .int .i64 op, .slice A m c, .slice sA sn sc, .int .i64 1, .int .i64 dk, .bool false, .int .i64 dk, .int .i64 di, .string ds, .int .i64 0, .int .i64 0, .int .i64 0, .slice none 0 0, .slice none 0 0] 27)).heap.size = xa.heap.size + 1 by simp] at h) hbc; have z0 := bze.cell 0; have z1 := bze.cell 1; have z2 := bze.cell 2; simp only [List.getElem?_toArray, List.getElem?_cons_zero, List.getElem?_cons_succ] at z0 z1 z2; have zf0 := bze.frozen 0; have zf1 := bze.frozen 1; have zf2 := bze.frozen 2)))
        | (go_at_call 5; (with_reducible refine (H8.out _ _ (Below.trans h12.out (Below.mono (w := wc) (by first | exact gc | exact gc.alloc gc.size _) h12.out.size)) (by first | exact (Blk.new xa _ _).below hbc | exact ((Blk.new xa _ _).alloc _).below hbc | exact ((Blk.new xa _ _).below hbc).alloc _ | (have h := (Blk.new (xa.alloc (.cells #[.int .i64 0, .int .i64 0, .string noText] 23)) #[.int .i64 1, .int .i64 1, .bool false, .int .i64 1, .int .i64 0, .string ⟨#[]⟩, .int .i64 0, .int .i64 0, .int .i64 0, .slice none 0 0, .slice none 0 0, .int .i64 k, .int .i64 t, .bool nl, .int .i64 lit.k, .int .i64 lit.i, .string lit.s, .int .i64 lv, .int .i64 col, .int .i64 op, .slice A m c, .slice sA sn sc, .int .i64 1, .int .i64 dk, .bool false, .int .i64 dk, .int .i64 di, .string ds, .int .i64 0, .int .i64 0, .int .i64 0, .slice none 0 0, .slice none 0 0] 27).below hbc; rwa [show (xa.alloc (.cells #[.int .i64 0, .int .i64 0, .string noText] 23)).heap.size = xa.heap.size + 1 by simp] at h))).mono ?_); rintro e xc ⟨rfl, hbv⟩; have gv : Below wc.heap.size wc xc := Below.trans (by first | exact gc | exact gc.alloc gc.size _) (hbv.mono (by have := gc.size; simp; try omega)); have szv := gv.size; (try (have bzv : Blk xc wc.heap.size #[.int .i64 0, .int .i64 0, .string noText] 23 := Blk.below bzc hbv; (try (clear z0 z1 z2 zf0 zf1 zf2)); have z0 := bzv.cell 0; have z1 := bzv.cell 1; have z2 := bzv.cell 2; simp only [List.getElem?_toArray, List.getElem?_cons_zero, List.getElem?_cons_succ] at z0 z1 z2; have zf0 := bzv.frozen 0; have zf1 := bzv.frozen 1; have zf2 := bzv.frozen 2)); (try (have bzw : Blk xc xa.heap.size #[.int .i64 0, .int .i64 0, .string noText] 23 := Blk.below bzd hbv; (try (clear z0 z1 z2 zf0 zf1 zf2)); have z0 := bzw.cell 0; have z1 := bzw.cell 1; have z2 := bzw.cell 2; simp only [List.getElem?_toArray, List.getElem?_cons_zero, List.getElem?_cons_succ] at z0 z1 z2; have zf0 := bzw.frozen 0; have zf1 := bzw.frozen 1; have zf2 := bzw.frozen 2)); (try (have bzx : Blk xc (xa.heap.size + 1) #[.int .i64 0, .int .i64 0, .string noText] 23 := Blk.below bze hbv; (try (clear z0 z1 z2 zf0 zf1 zf2)); have z0 := bzx.cell 0; have z1 := bzx.cell 1; have z2 := bzx.cell 2; simp only [List.getElem?_toArray, List.getElem?_cons_zero, List.getElem?_cons_succ] at z0 z1 z2; have zf0 := bzx.frozen 0; have zf1 := bzx.frozen 1; have zf2 := bzx.frozen 2)); (try (have bzy : Blk xc xb.heap.size #[.int .i64 0, .int .i64 0, .string noText] 23 := Blk.below (Blk.new xb _ _) hbv; have z0 := bzy.cell 0; have z1 := bzy.cell 1; have z2 := bzy.cell 2; simp only [List.getElem?_toArray, List.getElem?_cons_zero, List.getElem?_cons_succ] at z0 z1 z2; have zf0 := bzy.frozen 0; have zf1 := bzy.frozen 1; have zf2 := bzy.frozen 2)))))
      all_goals
        go_step
        go_step
        go_meet
        first
          | exact ⟨_, rfl, rfl, gv.alloc gv.size _, Blk.new _ _ _⟩
          | exact ⟨_, rfl, rfl, (((gv.setCell (by simp; try omega) _).setCell (by simp; try omega) _).setCell (by simp; try omega) _), by simpa using ((bzv.set 0 (.int .i64 dk)).set 1 (.int .i64 di)).set 2 (.string ds)⟩
          | exact ⟨_, rfl, rfl, (((gv.setCell (by simp; try omega) _).setCell (by simp; try omega) _).setCell (by simp; try omega) _), by simpa using ((bzw.set 0 (.int .i64 dk)).set 1 (.int .i64 di)).set 2 (.string ds)⟩
          | exact ⟨_, rfl, rfl, (((gv.setCell (by simp; try omega) _).setCell (by simp; try omega) _).setCell (by simp; try omega) _), by simpa using ((bzx.set 0 (.int .i64 dk)).set 1 (.int .i64 di)).set 2 (.string ds)⟩
          | exact ⟨_, rfl, rfl, (((gv.setCell (by simp; try omega) _).setCell (by simp; try omega) _).setCell (by simp; try omega) _), by simpa using ((bzy.set 0 (.int .i64 dk)).set 1 (.int .i64 di)).set 2 (.string ds)⟩
          | trace_state
    case rest =>
      obtain ⟨q8, rfl, rfl, hB13, bT13⟩ := hcut
      have h13 := h12.trans (hB13.mono h12.size)
      have bX13 := bX12.below hB13
      have bD13 := bD12.below hB13
      have bY13 := bY12.below hB13
      have bN13 := bN12.below hB13
      have bQ13 := bQ12.below hB13
      have bP13 := bP12.below hB13
      have bR13 := bR12.below hB13
      clear hB13
      go_wp2_with fail
      go_cut [15, 16] from 83 (fun p f wx => ∃ q : Nat, p = .pointer (some ⟨q, 0, none⟩) ∧ f = .int .i64 0 ∧ Below wc.heap.size wc wx ∧ Blk wx q #[.int .i64 dk, .int .i64 di, .string ds] 23)
      case first =>
        have HL := Lib.hid (HL.out dk di ds)
        have HC := Lib.hid (fun A w => HC.out 16 A 3 3 w)
        have h13 := Lib.hid h13
        have HCW : Hid (∀ w', Below wc.heap.size wc w' → w'.cell? ⟨w.heap.size, 0, none⟩ = some (.int .i64 k) ∧ w'.cell? ⟨w.heap.size, 1, none⟩ = some (.int .i64 t) ∧ w'.cell? ⟨w.heap.size, 2, none⟩ = some (.bool nl) ∧ w'.cell? ⟨w.heap.size, 3, none⟩ = some (.int .i64 lit.k) ∧ w'.cell? ⟨w.heap.size, 4, none⟩ = some (.int .i64 lit.i) ∧ w'.cell? ⟨w.heap.size, 5, none⟩ = some (.string lit.s) ∧ w'.cell? ⟨w.heap.size, 6, none⟩ = some (.int .i64 lv) ∧ w'.cell? ⟨w.heap.size, 7, none⟩ = some (.int .i64 col) ∧ w'.cell? ⟨w.heap.size, 8, none⟩ = some (.int .i64 op) ∧ w'.cell? ⟨w.heap.size, 9, none⟩ = some (.slice A m c) ∧ w'.cell? ⟨w.heap.size, 10, none⟩ = some (.slice sA sn sc) ∧ w'.cell? ⟨w.heap.size + 1, 0, none⟩ = some (.int .i64 dk) ∧ w'.cell? ⟨w.heap.size + 1, 1, none⟩ = some (.int .i64 di) ∧ w'.cell? ⟨w.heap.size + 1, 2, none⟩ = some (.string ds) ∧ w'.cell? ⟨w6.heap.size, 0, none⟩ = some (.int .i64 1) ∧ w'.cell? ⟨w6.heap.size, 1, none⟩ = some (.int .i64 1) ∧ w'.cell? ⟨w6.heap.size, 2, none⟩ = some (.bool false) ∧ w'.cell? ⟨w6.heap.size, 3, none⟩ = some (.int .i64 1) ∧ w'.cell? ⟨w6.heap.size, 4, none⟩ = some (.int .i64 1) ∧ w'.cell? ⟨w6.heap.size, 5, none⟩ = some (.string ⟨#[]⟩) ∧ w'.cell? ⟨w6.heap.size, 6, none⟩ = some (.int .i64 0) ∧ w'.cell? ⟨w6.heap.size, 7, none⟩ = some (.int .i64 0) ∧ w'.cell? ⟨w6.heap.size, 8, none⟩ = some (.int .i64 0) ∧ w'.cell? ⟨w6.heap.size, 9, none⟩ = some (.slice none 0 0) ∧ w'.cell? ⟨w6.heap.size, 10, none⟩ = some (.slice none 0 0)) := by
          intro w' hw'
          have y_ := bX13.below hw'; have y0 := y_.cell 0; have y1 := y_.cell 1; have y2 := y_.cell 2; have y3 := y_.cell 3; have y4 := y_.cell 4; have y5 := y_.cell 5; have y6 := y_.cell 6; have y7 := y_.cell 7; have y8 := y_.cell 8; have y9 := y_.cell 9; have y10 := y_.cell 10; simp only [List.getElem?_toArray, List.getElem?_cons_zero, List.getElem?_cons_succ] at y0 y1 y2 y3 y4 y5 y6 y7 y8 y9 y10; have d_ := bD13.below hw'; have d0 := d_.cell 0; have d1 := d_.cell 1; have d2 := d_.cell 2; simp only [List.getElem?_toArray, List.getElem?_cons_zero, List.getElem?_cons_succ] at d0 d1 d2; have n_ := bY13.below hw'; have n0 := n_.cell 0; have n1 := n_.cell 1; have n2 := n_.cell 2; have n3 := n_.cell 3; have n4 := n_.cell 4; have n5 := n_.cell 5; have n6 := n_.cell 6; have n7 := n_.cell 7; have n8 := n_.cell 8; have n9 := n_.cell 9; have n10 := n_.cell 10; simp only [List.getElem?_toArray, List.getElem?_cons_zero, List.getElem?_cons_succ] at n0 n1 n2 n3 n4 n5 n6 n7 n8 n9 n10
          exact ⟨y0, y1, y2, y3, y4, y5, y6, y7, y8, y9, y10, d0, d1, d2, n0, n1, n2, n3, n4, n5, n6, n7, n8, n9, n10⟩
        try clear HR
        try clear HS
        try clear H1
        try clear HO
        try clear H5
        try clear H6
        try clear H7
        try clear H8
        try clear H13
        try clear H14
        try clear H15
        try clear e13
        try clear e14
        try clear e15
        try clear hk
        try clear hk'
        try clear hb1
        try clear hb2
        try clear bX
        try clear bD
        try clear hb3
        try clear h3
        try clear bX3
        try clear bD3
        try clear hb4
        try clear h4
        try clear bX4
        try clear bD4
        try clear d0
        try clear d1
        try clear d2
        try clear hb5
        try clear h5
        try clear bX5
        try clear bD5
        try clear hb6
        try clear h6
        try clear bX6
        try clear bD6
        try clear bY6
        try clear hb7
        try clear h7
        try clear bX7
        try clear bD7
        try clear bY7
        try clear bN7
        try clear hb8
        try clear bX8
        try clear bD8
        try clear bY8
        try clear bN8
        try clear bS8
        try clear bR8
        try clear hb9
        try clear bX9
        try clear bD9
        try clear bY9
        try clear bN9
        try clear bS9
        try clear bR9
        try clear hb10
        try clear bX10
        try clear bD10
        try clear bY10
        try clear bN10
        try clear bS10
        try clear bR10
        try clear hb11
        try clear bX11
        try clear bD11
        try clear bY11
        try clear bN11
        try clear bS11
        try clear bR11
        try clear bQ9
        try clear h8
        try clear h9
        try clear h10
        try clear bX12
        try clear bD12
        try clear bY12
        try clear bN12
        try clear bQ12
        try clear bP12
        try clear bR12
        try clear bT12
        try clear bN13
        try clear bQ13
        try clear bP13
        try clear bR13
        try clear bT13
        try clear h11
        try clear h12
        try clear hB12
        try clear hB13
        try clear y0
        try clear y1
        try clear y2
        try clear y3
        try clear y4
        try clear y5
        try clear y6
        try clear y7
        try clear y8
        try clear y9
        try clear y10
        try clear v0
        try clear v1
        try clear v2
        try clear v3
        try clear v4
        try clear v5
        try clear v6
        try clear v7
        try clear v8
        try clear v9
        try clear v10
        have ly := bX13.lt
        have ld := bD13.lt
        have ln := bY13.lt
        have l11 := h13.out.size
        go_region_held3 (fun w' => w'.cell? ⟨w.heap.size, 0, none⟩ = some (.int .i64 k) ∧ w'.cell? ⟨w.heap.size, 1, none⟩ = some (.int .i64 t) ∧ w'.cell? ⟨w.heap.size, 2, none⟩ = some (.bool nl) ∧ w'.cell? ⟨w.heap.size, 3, none⟩ = some (.int .i64 lit.k) ∧ w'.cell? ⟨w.heap.size, 4, none⟩ = some (.int .i64 lit.i) ∧ w'.cell? ⟨w.heap.size, 5, none⟩ = some (.string lit.s) ∧ w'.cell? ⟨w.heap.size, 6, none⟩ = some (.int .i64 lv) ∧ w'.cell? ⟨w.heap.size, 7, none⟩ = some (.int .i64 col) ∧ w'.cell? ⟨w.heap.size, 8, none⟩ = some (.int .i64 op) ∧ w'.cell? ⟨w.heap.size, 9, none⟩ = some (.slice A m c) ∧ w'.cell? ⟨w.heap.size, 10, none⟩ = some (.slice sA sn sc) ∧ w'.cell? ⟨w.heap.size + 1, 0, none⟩ = some (.int .i64 dk) ∧ w'.cell? ⟨w.heap.size + 1, 1, none⟩ = some (.int .i64 di) ∧ w'.cell? ⟨w.heap.size + 1, 2, none⟩ = some (.string ds) ∧ w'.cell? ⟨w6.heap.size, 0, none⟩ = some (.int .i64 1) ∧ w'.cell? ⟨w6.heap.size, 1, none⟩ = some (.int .i64 1) ∧ w'.cell? ⟨w6.heap.size, 2, none⟩ = some (.bool false) ∧ w'.cell? ⟨w6.heap.size, 3, none⟩ = some (.int .i64 1) ∧ w'.cell? ⟨w6.heap.size, 4, none⟩ = some (.int .i64 1) ∧ w'.cell? ⟨w6.heap.size, 5, none⟩ = some (.string ⟨#[]⟩) ∧ w'.cell? ⟨w6.heap.size, 6, none⟩ = some (.int .i64 0) ∧ w'.cell? ⟨w6.heap.size, 7, none⟩ = some (.int .i64 0) ∧ w'.cell? ⟨w6.heap.size, 8, none⟩ = some (.int .i64 0) ∧ w'.cell? ⟨w6.heap.size, 9, none⟩ = some (.slice none 0 0) ∧ w'.cell? ⟨w6.heap.size, 10, none⟩ = some (.slice none 0 0)) (first | exact HCW.out _ (Below.refl _ _) | exact HCW.out _ (Below.refl _ _).drew | exact HCW.out _ ((Below.refl _ _).alloc (Nat.le_refl _) _) | exact HCW.out _ ((Below.refl _ _).drew.alloc (by simp) _) | exact HCW.out _ ((Below.refl _ _).alloc (Nat.le_refl _) _).drew | exact HCW.out _ gv | exact HCW.out _ (gv.alloc gv.size _) | exact HCW.out _ gc | exact HCW.out _ (gc.alloc gc.size _) | exact HCW.out _ gb | exact HCW.out _ (gb.alloc gb.size _) | exact HCW.out _ ((gb.alloc gb.size _).alloc (by have := gb.size; simp; omega) _) | exact HCW.out _ (((gv.setCell (by simp; try omega) _).setCell (by simp; try omega) _).setCell (by simp; try omega) _)) ((first
          | (go_at_call 10; (with_reducible refine (HL.out _).mono ?_); rintro e xa ⟨rfl, hbb⟩; have gb : Below wc.heap.size wc xa := Below.trans (by first | exact (Below.refl _ _).drew | exact ((Below.refl _ _).alloc (Nat.le_refl _) _).drew | exact ((Below.refl _ _).drew.alloc (by simp) _)) (hbb.mono (by simp)); have szb := gb.size; (try (have bz : Blk xa wc.heap.size #[.int .i64 0, .int .i64 0, .string noText] 23 := Blk.below (by first | exact (Blk.new wc _ _).drew | exact Blk.new wc.drew _ _) hbb; have z0 := bz.cell 0; have z1 := bz.cell 1; have z2 := bz.cell 2; simp only [List.getElem?_toArray, List.getElem?_cons_zero, List.getElem?_cons_succ] at z0 z1 z2; have zf0 := bz.frozen 0; have zf1 := bz.frozen 1; have zf2 := bz.frozen 2)))
          | (go_at_call 11; (with_reducible refine (HC.out _ _).mono ?_); rintro e xb ⟨rfl, hbc⟩; have gc : Below wc.heap.size wc xb := Below.trans (by first | exact gb.alloc gb.size _ | exact (gb.alloc gb.size _).alloc (by have := gb.size; simp; omega) _) (hbc.mono (by have := gb.size; simp; omega)); have szc := gc.size; (try (have bzc : Blk xb wc.heap.size #[.int .i64 0, .int .i64 0, .string noText] 23 := Blk.below (bz.alloc _) hbc; (try (clear z0 z1 z2 zf0 zf1 zf2)); have z0 := bzc.cell 0; have z1 := bzc.cell 1; have z2 := bzc.cell 2; simp only [List.getElem?_toArray, List.getElem?_cons_zero, List.getElem?_cons_succ] at z0 z1 z2; have zf0 := bzc.frozen 0; have zf1 := bzc.frozen 1; have zf2 := bzc.frozen 2)); (try (have bzd : Blk xb xa.heap.size #[.int .i64 0, .int .i64 0, .string noText] 23 := Blk.below ((Blk.new xa _ _).alloc _) hbc; have z0 := bzd.cell 0; have z1 := bzd.cell 1; have z2 := bzd.cell 2; simp only [List.getElem?_toArray, List.getElem?_cons_zero, List.getElem?_cons_succ] at z0 z1 z2; have zf0 := bzd.frozen 0; have zf1 := bzd.frozen 1; have zf2 := bzd.frozen 2)); (try (have bze : Blk xb (xa.heap.size + 1) #[.int .i64 0, .int .i64 0, .string noText] 23 := Blk.below (by have h := Blk.new (xa.alloc (.cells #[.int .i64 1, .int .i64 1, .bool false, .int .i64 1, .int .i64 1, .string ⟨#[]⟩, .int .i64 0, .int .i64 0, .int .i64 0, .slice none 0 0, .slice none 0 0, .int .i64 1, .int .i64 dk, .bool false, .int .i64 dk, .int .i64 di, .string ds, .int .i64 0, .int .i64 0, .int .i64 0, .slice none 0 0, .slice none 0 0, .int .i64 k, .int .i64 t, .bool nl, .int .i64 lit.k, .int .i64 lit.i, .string lit.s, .int .i64 lv, .int .i64 col, .int .i64 op, .slice A m c, .slice sA sn sc] 27)) #[.int .i64 0, .int .i64 0, .string noText] 23; rwa [show (xa.alloc (.cells #[.int .i64 1, .int .i64 1, .bool false, .int .i64 1, .int .i64 1, .string ⟨#[]⟩, .int .i64 0, .int .i64 0, .int .i64 0, .slice none 0 0, .slice none 0 0, .int .i64 1, .int .i64 dk, .bool false, .int .i64 dk, .int .i64 di, .string ds, .int .i64 0, .int .i64 0, .int .i64 0, .slice none 0 0, .slice none 0 0, .int .i64 k, .int .i64 t, .bool nl, .int .i64 lit.k, .int .i64 lit.i, .string lit.s, .int .i64 lv, .int .i64 col, .int .i64 op, .slice A m c, .slice sA sn sc] 27)).heap.size = xa.heap.size + 1 by simp] at h) hbc; have z0 := bze.cell 0; have z1 := bze.cell 1; have z2 := bze.cell 2; simp only [List.getElem?_toArray, List.getElem?_cons_zero, List.getElem?_cons_succ] at z0 z1 z2; have zf0 := bze.frozen 0; have zf1 := bze.frozen 1; have zf2 := bze.frozen 2)))
          | (go_at_call 5; (with_reducible refine (H9.out _ _ (Below.trans h13.out (Below.mono (w := wc) (by first | exact gc | exact gc.alloc gc.size _) h13.out.size)) (by first | exact (Blk.new xa _ _).below hbc | exact ((Blk.new xa _ _).alloc _).below hbc | exact ((Blk.new xa _ _).below hbc).alloc _ | (have h := (Blk.new (xa.alloc (.cells #[.int .i64 0, .int .i64 0, .string noText] 23)) #[.int .i64 1, .int .i64 1, .bool false, .int .i64 1, .int .i64 1, .string ⟨#[]⟩, .int .i64 0, .int .i64 0, .int .i64 0, .slice none 0 0, .slice none 0 0, .int .i64 1, .int .i64 dk, .bool false, .int .i64 dk, .int .i64 di, .string ds, .int .i64 0, .int .i64 0, .int .i64 0, .slice none 0 0, .slice none 0 0, .int .i64 k, .int .i64 t, .bool nl, .int .i64 lit.k, .int .i64 lit.i, .string lit.s, .int .i64 lv, .int .i64 col, .int .i64 op, .slice A m c, .slice sA sn sc] 27).below hbc; rwa [show (xa.alloc (.cells #[.int .i64 0, .int .i64 0, .string noText] 23)).heap.size = xa.heap.size + 1 by simp] at h))).mono ?_); rintro e xc ⟨rfl, hbv⟩; have gv : Below wc.heap.size wc xc := Below.trans (by first | exact gc | exact gc.alloc gc.size _) (hbv.mono (by have := gc.size; simp; try omega)); have szv := gv.size; (try (have bzv : Blk xc wc.heap.size #[.int .i64 0, .int .i64 0, .string noText] 23 := Blk.below bzc hbv; (try (clear z0 z1 z2 zf0 zf1 zf2)); have z0 := bzv.cell 0; have z1 := bzv.cell 1; have z2 := bzv.cell 2; simp only [List.getElem?_toArray, List.getElem?_cons_zero, List.getElem?_cons_succ] at z0 z1 z2; have zf0 := bzv.frozen 0; have zf1 := bzv.frozen 1; have zf2 := bzv.frozen 2)); (try (have bzw : Blk xc xa.heap.size #[.int .i64 0, .int .i64 0, .string noText] 23 := Blk.below bzd hbv; (try (clear z0 z1 z2 zf0 zf1 zf2)); have z0 := bzw.cell 0; have z1 := bzw.cell 1; have z2 := bzw.cell 2; simp only [List.getElem?_toArray, List.getElem?_cons_zero, List.getElem?_cons_succ] at z0 z1 z2; have zf0 := bzw.frozen 0; have zf1 := bzw.frozen 1; have zf2 := bzw.frozen 2)); (try (have bzx : Blk xc (xa.heap.size + 1) #[.int .i64 0, .int .i64 0, .string noText] 23 := Blk.below bze hbv; (try (clear z0 z1 z2 zf0 zf1 zf2)); have z0 := bzx.cell 0; have z1 := bzx.cell 1; have z2 := bzx.cell 2; simp only [List.getElem?_toArray, List.getElem?_cons_zero, List.getElem?_cons_succ] at z0 z1 z2; have zf0 := bzx.frozen 0; have zf1 := bzx.frozen 1; have zf2 := bzx.frozen 2)); (try (have bzy : Blk xc xb.heap.size #[.int .i64 0, .int .i64 0, .string noText] 23 := Blk.below (Blk.new xb _ _) hbv; have z0 := bzy.cell 0; have z1 := bzy.cell 1; have z2 := bzy.cell 2; simp only [List.getElem?_toArray, List.getElem?_cons_zero, List.getElem?_cons_succ] at z0 z1 z2; have zf0 := bzy.frozen 0; have zf1 := bzy.frozen 1; have zf2 := bzy.frozen 2)))))
        all_goals
          go_step
          go_step
          go_meet
          first
            | exact ⟨_, rfl, rfl, gv.alloc gv.size _, Blk.new _ _ _⟩
            | exact ⟨_, rfl, rfl, (((gv.setCell (by simp; try omega) _).setCell (by simp; try omega) _).setCell (by simp; try omega) _), by simpa using ((bzv.set 0 (.int .i64 dk)).set 1 (.int .i64 di)).set 2 (.string ds)⟩
            | exact ⟨_, rfl, rfl, (((gv.setCell (by simp; try omega) _).setCell (by simp; try omega) _).setCell (by simp; try omega) _), by simpa using ((bzw.set 0 (.int .i64 dk)).set 1 (.int .i64 di)).set 2 (.string ds)⟩
            | exact ⟨_, rfl, rfl, (((gv.setCell (by simp; try omega) _).setCell (by simp; try omega) _).setCell (by simp; try omega) _), by simpa using ((bzx.set 0 (.int .i64 dk)).set 1 (.int .i64 di)).set 2 (.string ds)⟩
            | exact ⟨_, rfl, rfl, (((gv.setCell (by simp; try omega) _).setCell (by simp; try omega) _).setCell (by simp; try omega) _), by simpa using ((bzy.set 0 (.int .i64 dk)).set 1 (.int .i64 di)).set 2 (.string ds)⟩
            | trace_state
      case rest =>
        obtain ⟨q9, rfl, rfl, hB14, bU14⟩ := hcut
        have h14 := h13.trans (hB14.mono h13.size)
        have bX14 := bX13.below hB14
        have bD14 := bD13.below hB14
        have bY14 := bY13.below hB14
        have bN14 := bN13.below hB14
        have bQ14 := bQ13.below hB14
        have bP14 := bP13.below hB14
        have bR14 := bR13.below hB14
        have bT14 := bT13.below hB14
        clear hB14
        have qa0 := bQ14.cell 0
        have qa1 := bQ14.cell 1
        have qa2 := bQ14.cell 2
        simp only [List.getElem?_toArray, List.getElem?_cons_zero, List.getElem?_cons_succ] at qa0 qa1 qa2
        have na3 := bN14.cell 3
        have na4 := bN14.cell 4
        have na5 := bN14.cell 5
        simp only [List.getElem?_toArray, List.getElem?_cons_zero, List.getElem?_cons_succ] at na3 na4 na5
        have pa0 := bP14.cell 0
        have pa1 := bP14.cell 1
        have pa2 := bP14.cell 2
        simp only [List.getElem?_toArray, List.getElem?_cons_zero, List.getElem?_cons_succ] at pa0 pa1 pa2
        have ya3 := bY14.cell 3
        have ya4 := bY14.cell 4
        have ya5 := bY14.cell 5
        simp only [List.getElem?_toArray, List.getElem?_cons_zero, List.getElem?_cons_succ] at ya3 ya4 ya5
        have ra0 := bR14.cell 0
        have ra1 := bR14.cell 1
        have ra2 := bR14.cell 2
        simp only [List.getElem?_toArray, List.getElem?_cons_zero, List.getElem?_cons_succ] at ra0 ra1 ra2
        have ta0 := bT14.cell 0
        have ta1 := bT14.cell 1
        have ta2 := bT14.cell 2
        simp only [List.getElem?_toArray, List.getElem?_cons_zero, List.getElem?_cons_succ] at ta0 ta1 ta2
        have ua0 := bU14.cell 0
        have ua1 := bU14.cell 1
        have ua2 := bU14.cell 2
        simp only [List.getElem?_toArray, List.getElem?_cons_zero, List.getElem?_cons_succ] at ua0 ua1 ua2
        have da0 := bD14.cell 0
        have da1 := bD14.cell 1
        have da2 := bD14.cell 2
        simp only [List.getElem?_toArray, List.getElem?_cons_zero, List.getElem?_cons_succ] at da0 da1 da2
        have xa0 := bX14.cell 0
        have xa1 := bX14.cell 1
        have xa2 := bX14.cell 2
        have xa3 := bX14.cell 3
        have xa4 := bX14.cell 4
        have xa5 := bX14.cell 5
        have xa6 := bX14.cell 6
        have xa7 := bX14.cell 7
        have xa8 := bX14.cell 8
        have xa9 := bX14.cell 9
        have xa10 := bX14.cell 10
        simp only [List.getElem?_toArray, List.getElem?_cons_zero, List.getElem?_cons_succ] at xa0 xa1 xa2 xa3 xa4 xa5 xa6 xa7 xa8 xa9 xa10
        have hE1 := fun w => run_neq_same 1 0 noText w
        have hE2 := fun w => run_neq_same 1 1 noText w
        have hE3 := fun w => run_neq_same dk di ds w
        have hE4 : ∀ w, (binOp .neq 23 (.agg #[.int .i64 1, .int .i64 0, .string noText]) (.agg #[.int .i64 1, .int .i64 0, .string ⟨#[]⟩])).run Tryd.prog w = .ok (.bool false) w := hE1
        have hE5 : ∀ w, (binOp .neq 23 (.agg #[.int .i64 1, .int .i64 1, .string noText]) (.agg #[.int .i64 1, .int .i64 1, .string ⟨#[]⟩])).run Tryd.prog w = .ok (.bool false) w := hE2
        go_wp2_with (go_at_call 12; (with_reducible refine (HO.out _ h14).mono ?_); rintro e w15 ⟨rfl, hb15⟩; have h15 := (h14.trans (hb15.mono h14.size)).alloc (by have := h14.size; have := hb15.size; omega) (.cells #[.int .i64 k12, .int .i64 i12, .string s12] 23); have bX15 := (bX14.below hb15).alloc (.cells #[.int .i64 k12, .int .i64 i12, .string s12] 23); have bD15 := (bD14.below hb15).alloc (.cells #[.int .i64 k12, .int .i64 i12, .string s12] 23); have bY15 := (bY14.below hb15).alloc (.cells #[.int .i64 k12, .int .i64 i12, .string s12] 23))
        have hWW : ∃ W, w15.alloc (.cells #[.int .i64 k12, .int .i64 i12, .string s12] 23) = W := ⟨_, rfl⟩
        obtain ⟨WB, hWB⟩ := hWW
        rw [hWB] at h15 bX15 bD15 bY15 ⊢
        clear hWB
        go_cut [19, 20] from 143 (fun p g wx => ∃ q : Nat, p = .pointer (some ⟨q, 0, none⟩) ∧ g = .int .i64 f ∧ Below WB.heap.size WB wx)
        case first =>
          have HL := Lib.hid (HL.out dk di ds)
          have HC := Lib.hid (fun A w => HC.out 17 A 2 2 w)
          have h15 := Lib.hid h15
          have HCW : Hid (∀ w', Below WB.heap.size WB w' → w'.cell? ⟨w.heap.size, 0, none⟩ = some (.int .i64 k) ∧ w'.cell? ⟨w.heap.size, 1, none⟩ = some (.int .i64 t) ∧ w'.cell? ⟨w.heap.size, 2, none⟩ = some (.bool nl) ∧ w'.cell? ⟨w.heap.size, 3, none⟩ = some (.int .i64 lit.k) ∧ w'.cell? ⟨w.heap.size, 4, none⟩ = some (.int .i64 lit.i) ∧ w'.cell? ⟨w.heap.size, 5, none⟩ = some (.string lit.s) ∧ w'.cell? ⟨w.heap.size, 6, none⟩ = some (.int .i64 lv) ∧ w'.cell? ⟨w.heap.size, 7, none⟩ = some (.int .i64 col) ∧ w'.cell? ⟨w.heap.size, 8, none⟩ = some (.int .i64 op) ∧ w'.cell? ⟨w.heap.size, 9, none⟩ = some (.slice A m c) ∧ w'.cell? ⟨w.heap.size, 10, none⟩ = some (.slice sA sn sc) ∧ w'.cell? ⟨w.heap.size + 1, 0, none⟩ = some (.int .i64 dk) ∧ w'.cell? ⟨w.heap.size + 1, 1, none⟩ = some (.int .i64 di) ∧ w'.cell? ⟨w.heap.size + 1, 2, none⟩ = some (.string ds)) := by
            intro w' hw'
            have y_ := bX15.below hw'; have y0 := y_.cell 0; have y1 := y_.cell 1; have y2 := y_.cell 2; have y3 := y_.cell 3; have y4 := y_.cell 4; have y5 := y_.cell 5; have y6 := y_.cell 6; have y7 := y_.cell 7; have y8 := y_.cell 8; have y9 := y_.cell 9; have y10 := y_.cell 10; simp only [List.getElem?_toArray, List.getElem?_cons_zero, List.getElem?_cons_succ] at y0 y1 y2 y3 y4 y5 y6 y7 y8 y9 y10; have d_ := bD15.below hw'; have d0 := d_.cell 0; have d1 := d_.cell 1; have d2 := d_.cell 2; simp only [List.getElem?_toArray, List.getElem?_cons_zero, List.getElem?_cons_succ] at d0 d1 d2
            exact ⟨y0, y1, y2, y3, y4, y5, y6, y7, y8, y9, y10, d0, d1, d2⟩
          try clear HR
          try clear HS
          try clear H1
          try clear HO
          try clear H5
          try clear H6
          try clear H7
          try clear H8
          try clear H9
          try clear H14
          try clear H15
          try clear e13
          try clear e14
          try clear e15
          try clear hk
          try clear hk'
          try clear hb1
          try clear hb2
          try clear bX
          try clear bD
          try clear hb3
          try clear h3
          try clear bX3
          try clear bD3
          try clear hb4
          try clear h4
          try clear bX4
          try clear bD4
          try clear d0
          try clear d1
          try clear d2
          try clear hb5
          try clear h5
          try clear bX5
          try clear bD5
          try clear hb6
          try clear h6
          try clear bX6
          try clear bD6
          try clear bY6
          try clear hb7
          try clear h7
          try clear bX7
          try clear bD7
          try clear bY7
          try clear bN7
          try clear hb8
          try clear bX8
          try clear bD8
          try clear bY8
          try clear bN8
          try clear bS8
          try clear bR8
          try clear hb9
          try clear bX9
          try clear bD9
          try clear bY9
          try clear bN9
          try clear bS9
          try clear bR9
          try clear hb10
          try clear bX10
          try clear bD10
          try clear bY10
          try clear bN10
          try clear bS10
          try clear bR10
          try clear hb11
          try clear bX11
          try clear bD11
          try clear bY11
          try clear bN11
          try clear bS11
          try clear bR11
          try clear bQ9
          try clear h8
          try clear h9
          try clear h10
          try clear bX12
          try clear bD12
          try clear bY12
          try clear bN12
          try clear bQ12
          try clear bP12
          try clear bR12
          try clear bT12
          try clear bU12
          try clear bX13
          try clear bD13
          try clear bY13
          try clear bN13
          try clear bQ13
          try clear bP13
          try clear bR13
          try clear bT13
          try clear bU13
          try clear bX14
          try clear bD14
          try clear bY14
          try clear bN14
          try clear bQ14
          try clear bP14
          try clear bR14
          try clear bT14
          try clear bU14
          try clear bY15
          try clear bN15
          try clear bQ15
          try clear bP15
          try clear bR15
          try clear bT15
          try clear bU15
          try clear h11
          try clear h12
          try clear h13
          try clear h14
          try clear hB12
          try clear hB13
          try clear hB14
          try clear hb15
          try clear hE1
          try clear hE2
          try clear hE3
          try clear hE4
          try clear hE5
          try clear qa0
          try clear qa1
          try clear qa2
          try clear pa0
          try clear pa1
          try clear pa2
          try clear ra0
          try clear ra1
          try clear ra2
          try clear ta0
          try clear ta1
          try clear ta2
          try clear ua0
          try clear ua1
          try clear ua2
          try clear da0
          try clear da1
          try clear da2
          try clear na3
          try clear na4
          try clear na5
          try clear ya3
          try clear ya4
          try clear ya5
          try clear xa0
          try clear xa1
          try clear xa2
          try clear xa3
          try clear xa4
          try clear xa5
          try clear xa6
          try clear xa7
          try clear xa8
          try clear xa9
          try clear xa10
          try clear y0
          try clear y1
          try clear y2
          try clear y3
          try clear y4
          try clear y5
          try clear y6
          try clear y7
          try clear y8
          try clear y9
          try clear y10
          try clear v0
          try clear v1
          try clear v2
          try clear v3
          try clear v4
          try clear v5
          try clear v6
          try clear v7
          try clear v8
          try clear v9
          try clear v10
          have ly := bX15.lt
          have ld := bD15.lt
          have l11 := h15.out.size
          go_region_held3 (fun w' => w'.cell? ⟨w.heap.size, 0, none⟩ = some (.int .i64 k) ∧ w'.cell? ⟨w.heap.size, 1, none⟩ = some (.int .i64 t) ∧ w'.cell? ⟨w.heap.size, 2, none⟩ = some (.bool nl) ∧ w'.cell? ⟨w.heap.size, 3, none⟩ = some (.int .i64 lit.k) ∧ w'.cell? ⟨w.heap.size, 4, none⟩ = some (.int .i64 lit.i) ∧ w'.cell? ⟨w.heap.size, 5, none⟩ = some (.string lit.s) ∧ w'.cell? ⟨w.heap.size, 6, none⟩ = some (.int .i64 lv) ∧ w'.cell? ⟨w.heap.size, 7, none⟩ = some (.int .i64 col) ∧ w'.cell? ⟨w.heap.size, 8, none⟩ = some (.int .i64 op) ∧ w'.cell? ⟨w.heap.size, 9, none⟩ = some (.slice A m c) ∧ w'.cell? ⟨w.heap.size, 10, none⟩ = some (.slice sA sn sc) ∧ w'.cell? ⟨w.heap.size + 1, 0, none⟩ = some (.int .i64 dk) ∧ w'.cell? ⟨w.heap.size + 1, 1, none⟩ = some (.int .i64 di) ∧ w'.cell? ⟨w.heap.size + 1, 2, none⟩ = some (.string ds)) (first | exact HCW.out _ (Below.refl _ _) | exact HCW.out _ (Below.refl _ _).drew | exact HCW.out _ ((Below.refl _ _).alloc (Nat.le_refl _) _) | exact HCW.out _ ((Below.refl _ _).drew.alloc (by simp) _) | exact HCW.out _ ((Below.refl _ _).alloc (Nat.le_refl _) _).drew | exact HCW.out _ gv | exact HCW.out _ (gv.alloc gv.size _) | exact HCW.out _ gc | exact HCW.out _ (gc.alloc gc.size _) | exact HCW.out _ gb | exact HCW.out _ (gb.alloc gb.size _) | exact HCW.out _ ((gb.alloc gb.size _).alloc (by have := gb.size; simp; omega) _) | exact HCW.out _ (((gv.setCell (by simp; try omega) _).setCell (by simp; try omega) _).setCell (by simp; try omega) _)) ((first
            | (go_at_call 10; (with_reducible refine (HL.out _).mono ?_); rintro e xa ⟨rfl, hbb⟩; have gb : Below WB.heap.size WB xa := Below.trans (by first | exact (Below.refl _ _).drew | exact ((Below.refl _ _).alloc (Nat.le_refl _) _).drew | exact ((Below.refl _ _).drew.alloc (by simp) _)) (hbb.mono (by simp)); have szb := gb.size; (try (have bz : Blk xa WB.heap.size #[.int .i64 0, .int .i64 0, .string noText] 23 := Blk.below (by first | exact (Blk.new WB _ _).drew | exact Blk.new WB.drew _ _) hbb; have z0 := bz.cell 0; have z1 := bz.cell 1; have z2 := bz.cell 2; simp only [List.getElem?_toArray, List.getElem?_cons_zero, List.getElem?_cons_succ] at z0 z1 z2; have zf0 := bz.frozen 0; have zf1 := bz.frozen 1; have zf2 := bz.frozen 2)))
            | (go_at_call 11; (with_reducible refine (HC.out _ _).mono ?_); rintro e xb ⟨rfl, hbc⟩; have gc : Below WB.heap.size WB xb := Below.trans (by first | exact gb.alloc gb.size _ | exact (gb.alloc gb.size _).alloc (by have := gb.size; simp; omega) _) (hbc.mono (by have := gb.size; simp; omega)); have szc := gc.size; (try (have bzc : Blk xb WB.heap.size #[.int .i64 0, .int .i64 0, .string noText] 23 := Blk.below (bz.alloc _) hbc; (try (clear z0 z1 z2 zf0 zf1 zf2)); have z0 := bzc.cell 0; have z1 := bzc.cell 1; have z2 := bzc.cell 2; simp only [List.getElem?_toArray, List.getElem?_cons_zero, List.getElem?_cons_succ] at z0 z1 z2; have zf0 := bzc.frozen 0; have zf1 := bzc.frozen 1; have zf2 := bzc.frozen 2)); (try (have bzd : Blk xb xa.heap.size #[.int .i64 0, .int .i64 0, .string noText] 23 := Blk.below ((Blk.new xa _ _).alloc _) hbc; have z0 := bzd.cell 0; have z1 := bzd.cell 1; have z2 := bzd.cell 2; simp only [List.getElem?_toArray, List.getElem?_cons_zero, List.getElem?_cons_succ] at z0 z1 z2; have zf0 := bzd.frozen 0; have zf1 := bzd.frozen 1; have zf2 := bzd.frozen 2)); (try (have bze : Blk xb (xa.heap.size + 1) #[.int .i64 0, .int .i64 0, .string noText] 23 := Blk.below (by have h := Blk.new (xa.alloc (.cells #[.int .i64 k, .int .i64 t, .bool nl, .int .i64 lit.k, .int .i64 lit.i, .string lit.s, .int .i64 lv, .int .i64 col, .int .i64 op, .slice A m c, .slice sA sn sc, .int .i64 1, .int .i64 dk, .bool false, .int .i64 dk, .int .i64 di, .string ds, .int .i64 0, .int .i64 0, .int .i64 0, .slice none 0 0, .slice none 0 0] 27)) #[.int .i64 0, .int .i64 0, .string noText] 23; rwa [show (xa.alloc (.cells #[.int .i64 k, .int .i64 t, .bool nl, .int .i64 lit.k, .int .i64 lit.i, .string lit.s, .int .i64 lv, .int .i64 col, .int .i64 op, .slice A m c, .slice sA sn sc, .int .i64 1, .int .i64 dk, .bool false, .int .i64 dk, .int .i64 di, .string ds, .int .i64 0, .int .i64 0, .int .i64 0, .slice none 0 0, .slice none 0 0] 27)).heap.size = xa.heap.size + 1 by simp] at h) hbc; have z0 := bze.cell 0; have z1 := bze.cell 1; have z2 := bze.cell 2; simp only [List.getElem?_toArray, List.getElem?_cons_zero, List.getElem?_cons_succ] at z0 z1 z2; have zf0 := bze.frozen 0; have zf1 := bze.frozen 1; have zf2 := bze.frozen 2)))
            | (go_at_call 5; (with_reducible refine (H13.out _ _ (Below.trans h15.out (Below.mono (w := WB) (by first | exact gc | exact gc.alloc gc.size _) h15.out.size)) (by first | exact (Blk.new xa _ _).below hbc | exact ((Blk.new xa _ _).alloc _).below hbc | exact ((Blk.new xa _ _).below hbc).alloc _ | (have h := (Blk.new (xa.alloc (.cells #[.int .i64 0, .int .i64 0, .string noText] 23)) #[.int .i64 k, .int .i64 t, .bool nl, .int .i64 lit.k, .int .i64 lit.i, .string lit.s, .int .i64 lv, .int .i64 col, .int .i64 op, .slice A m c, .slice sA sn sc, .int .i64 1, .int .i64 dk, .bool false, .int .i64 dk, .int .i64 di, .string ds, .int .i64 0, .int .i64 0, .int .i64 0, .slice none 0 0, .slice none 0 0] 27).below hbc; rwa [show (xa.alloc (.cells #[.int .i64 0, .int .i64 0, .string noText] 23)).heap.size = xa.heap.size + 1 by simp] at h))).mono ?_); rintro e xc ⟨rfl, hbv⟩; have gv : Below WB.heap.size WB xc := Below.trans (by first | exact gc | exact gc.alloc gc.size _) (hbv.mono (by have := gc.size; simp; try omega)); have szv := gv.size; (try (have bzv : Blk xc WB.heap.size #[.int .i64 0, .int .i64 0, .string noText] 23 := Blk.below bzc hbv; (try (clear z0 z1 z2 zf0 zf1 zf2)); have z0 := bzv.cell 0; have z1 := bzv.cell 1; have z2 := bzv.cell 2; simp only [List.getElem?_toArray, List.getElem?_cons_zero, List.getElem?_cons_succ] at z0 z1 z2; have zf0 := bzv.frozen 0; have zf1 := bzv.frozen 1; have zf2 := bzv.frozen 2)); (try (have bzw : Blk xc xa.heap.size #[.int .i64 0, .int .i64 0, .string noText] 23 := Blk.below bzd hbv; (try (clear z0 z1 z2 zf0 zf1 zf2)); have z0 := bzw.cell 0; have z1 := bzw.cell 1; have z2 := bzw.cell 2; simp only [List.getElem?_toArray, List.getElem?_cons_zero, List.getElem?_cons_succ] at z0 z1 z2; have zf0 := bzw.frozen 0; have zf1 := bzw.frozen 1; have zf2 := bzw.frozen 2)); (try (have bzx : Blk xc (xa.heap.size + 1) #[.int .i64 0, .int .i64 0, .string noText] 23 := Blk.below bze hbv; (try (clear z0 z1 z2 zf0 zf1 zf2)); have z0 := bzx.cell 0; have z1 := bzx.cell 1; have z2 := bzx.cell 2; simp only [List.getElem?_toArray, List.getElem?_cons_zero, List.getElem?_cons_succ] at z0 z1 z2; have zf0 := bzx.frozen 0; have zf1 := bzx.frozen 1; have zf2 := bzx.frozen 2)); (try (have bzy : Blk xc xb.heap.size #[.int .i64 0, .int .i64 0, .string noText] 23 := Blk.below (Blk.new xb _ _) hbv; have z0 := bzy.cell 0; have z1 := bzy.cell 1; have z2 := bzy.cell 2; simp only [List.getElem?_toArray, List.getElem?_cons_zero, List.getElem?_cons_succ] at z0 z1 z2; have zf0 := bzy.frozen 0; have zf1 := bzy.frozen 1; have zf2 := bzy.frozen 2)))))
          all_goals
            go_step
            go_step
            go_meet
            first
              | exact ⟨_, rfl, rfl, gv.alloc gv.size _⟩
              | exact ⟨_, rfl, rfl, (((gv.setCell (by simp; try omega) _).setCell (by simp; try omega) _).setCell (by simp; try omega) _)⟩
              | trace_state
        case rest =>
          obtain ⟨q13, rfl, rfl, hB16⟩ := hcut
          have h16 := h15.trans (hB16.mono h15.size)
          have bX16 := bX15.below hB16
          have bY16 := bY15.below hB16
          clear hB16
          have xb0 := bX16.cell 0
          have xb1 := bX16.cell 1
          have xb2 := bX16.cell 2
          have xb3 := bX16.cell 3
          have xb4 := bX16.cell 4
          have xb5 := bX16.cell 5
          have xb6 := bX16.cell 6
          have xb7 := bX16.cell 7
          have xb8 := bX16.cell 8
          have xb9 := bX16.cell 9
          have xb10 := bX16.cell 10
          simp only [List.getElem?_toArray, List.getElem?_cons_zero, List.getElem?_cons_succ] at xb0 xb1 xb2 xb3 xb4 xb5 xb6 xb7 xb8 xb9 xb10
          have yb0 := bY16.cell 0
          have yb1 := bY16.cell 1
          have yb2 := bY16.cell 2
          have yb3 := bY16.cell 3
          have yb4 := bY16.cell 4
          have yb5 := bY16.cell 5
          have yb6 := bY16.cell 6
          have yb7 := bY16.cell 7
          have yb8 := bY16.cell 8
          have yb9 := bY16.cell 9
          have yb10 := bY16.cell 10
          simp only [List.getElem?_toArray, List.getElem?_cons_zero, List.getElem?_cons_succ] at yb0 yb1 yb2 yb3 yb4 yb5 yb6 yb7 yb8 yb9 yb10
          go_wp2_with (first
            | (go_at_call 11; (with_reducible refine (HC.out 16 _ 2 2 _).mono ?_); rintro e w17 ⟨rfl, hb17⟩; have h17 := (h16.alloc h16.size (.cells #[.int .i64 1, .int .i64 1, .bool false, .int .i64 1, .int .i64 1, .string ⟨#[]⟩, .int .i64 0, .int .i64 0, .int .i64 0, .slice none 0 0, .slice none 0 0, .int .i64 k, .int .i64 t, .bool nl, .int .i64 lit.k, .int .i64 lit.i, .string lit.s, .int .i64 lv, .int .i64 col, .int .i64 op, .slice A m c, .slice sA sn sc] 27)).trans (hb17.mono (by have := h16.size; simp; omega)); have bX17 := (bX16.alloc (.cells #[.int .i64 1, .int .i64 1, .bool false, .int .i64 1, .int .i64 1, .string ⟨#[]⟩, .int .i64 0, .int .i64 0, .int .i64 0, .slice none 0 0, .slice none 0 0, .int .i64 k, .int .i64 t, .bool nl, .int .i64 lit.k, .int .i64 lit.i, .string lit.s, .int .i64 lv, .int .i64 col, .int .i64 op, .slice A m c, .slice sA sn sc] 27)).below hb17; have bS17 := (Blk.new wc #[.int .i64 1, .int .i64 1, .bool false, .int .i64 1, .int .i64 1, .string ⟨#[]⟩, .int .i64 0, .int .i64 0, .int .i64 0, .slice none 0 0, .slice none 0 0, .int .i64 k, .int .i64 t, .bool nl, .int .i64 lit.k, .int .i64 lit.i, .string lit.s, .int .i64 lv, .int .i64 col, .int .i64 op, .slice A m c, .slice sA sn sc] 27).below hb17)
            | (go_at_call 5; (with_reducible refine (H14.out _ _ h17 bS17).mono ?_); rintro e w18 ⟨rfl, hb18⟩; have h18 := (h17.trans (hb18.mono h17.size)).alloc (by have := h17.size; have := hb18.size; omega) (.cells #[.int .i64 k14, .int .i64 i14, .string s14] 23); have bX18 := (bX17.below hb18).alloc (.cells #[.int .i64 k14, .int .i64 i14, .string s14] 23); clear xb0 xb1 xb2 xb3 xb4 xb5 xb6 xb7 xb8 xb9 xb10; have xc0 := bX18.cell 0; have xc1 := bX18.cell 1; have xc2 := bX18.cell 2; have xc3 := bX18.cell 3; have xc4 := bX18.cell 4; have xc5 := bX18.cell 5; have xc6 := bX18.cell 6; have xc7 := bX18.cell 7; have xc8 := bX18.cell 8; have xc9 := bX18.cell 9; have xc10 := bX18.cell 10; simp only [List.getElem?_toArray, List.getElem?_cons_zero, List.getElem?_cons_succ] at xc0 xc1 xc2 xc3 xc4 xc5 xc6 xc7 xc8 xc9 xc10)
            | (go_at_call 11; (with_reducible refine (HC.out 15 _ 1 1 _).mono ?_); rintro e w19 ⟨rfl, hb19⟩; have h19 := (h18.alloc h18.size (.cells #[.int .i64 k, .int .i64 t, .bool nl, .int .i64 lit.k, .int .i64 lit.i, .string lit.s, .int .i64 lv, .int .i64 col, .int .i64 op, .slice A m c, .slice sA sn sc] 27)).trans (hb19.mono (by have := h18.size; simp at this ⊢; omega)); have bS19 : Blk w19 (w18.heap.size + 1) #[.int .i64 k, .int .i64 t, .bool nl, .int .i64 lit.k, .int .i64 lit.i, .string lit.s, .int .i64 lv, .int .i64 col, .int .i64 op, .slice A m c, .slice sA sn sc] 27 := (by have h := (Blk.new (w18.alloc (.cells #[.int .i64 k14, .int .i64 i14, .string s14] 23)) #[.int .i64 k, .int .i64 t, .bool nl, .int .i64 lit.k, .int .i64 lit.i, .string lit.s, .int .i64 lv, .int .i64 col, .int .i64 op, .slice A m c, .slice sA sn sc] 27).below hb19; rwa [show (w18.alloc (.cells #[.int .i64 k14, .int .i64 i14, .string s14] 23)).heap.size = w18.heap.size + 1 by simp] at h))
            | (go_at_call 5; (with_reducible refine (H15.out _ _ h19 bS19).mono ?_); rintro e w20 ⟨rfl, hb20⟩; have h20 := (h19.trans (hb20.mono h19.size)).alloc (by have := h19.size; have := hb20.size; omega) (.cells #[.int .i64 k15, .int .i64 i15, .string s15] 23)))
          go_ret
          exact ⟨rfl, h20⟩


end Go.Proofs.YtbjcebnahllnjaaDoor
