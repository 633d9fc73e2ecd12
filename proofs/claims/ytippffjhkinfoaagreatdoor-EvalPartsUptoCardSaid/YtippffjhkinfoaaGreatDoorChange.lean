/-
  The contract of datum's change at OpDec (an INT as a DEC; a DEC stays): what it returns; it makes memory of its own alone.
-/
import Derived.Test.YtippffjhkinfoaaGreatDoorScale
namespace Go.Proofs.YtippffjhkinfoaaGreatDoor
open Go.RowKit

theorem Blk.at {W : World} {cs : Array Value} {t : TypeId} {n : Nat} (h : W.heap.size = n) : Blk (W.alloc (.cells cs t)) n cs t := h ▸ Blk.new W cs t

set_option maxHeartbeats 4000000 in
set_option maxRecDepth 100000 in
theorem change_dec (k i V : Int) (B : Bool) (s : ByteArray) (w : World) (hk : k = 2 ∨ k = 3)
    (HS : Hid (∀ w : World, Calls Tryz.prog 110 #[.agg #[.int .i64 k, .int .i64 i, .string s]] w (RatPost V B w))) :
    Calls Tryz.prog 87 #[.int .i64 20, .agg #[.int .i64 k, .int .i64 i, .string s]] w (ResPost (if B then 3 else 0) (if B then V else 0) (if B then 0 else 4) w) := by
  have e1 : (k == 0) = false := by simp; omega
  have e2 : Hid (numB k = true) := by unfold Hid numB; rcases hk with rfl | rfl <;> rfl
  have HN := Lib.hid (fun w => number_any 3 V B w)
  clear hk
  generalize (if B then (3 : Int) else 0) = K at *
  generalize (if B then V else 0) = I at *
  generalize (if B then (0 : Int) else 4) = E at *
  go_enter Tryz.func87, Tryz.ntmps87
  go_wp2_with (first
    | (go_at_call 86; refine (isNull_any _ _ _ _).mono ?_; rintro e w' ⟨rfl, rfl⟩)
    | (go_at_call 109; refine (isNumber_any _ _ _ _).mono ?_; rintro e w' ⟨rfl, rfl⟩; rw [e2.out])
    | (go_at_call 110; (with_reducible refine (HS.out _).mono ?_); rintro e w1 ⟨rfl, hb⟩; have hw1 := Below.trans (a := w) (B := w.heap.size) (by repeat (first | exact Below.refl _ _ | assumption | refine Below.alloc ?_ (by simp <;> omega) _)) (hb.mono (by simp <;> omega)); have hR := Blk.below (b := w.heap.size + 1) (cs := #[.int .i64 0, .int .i64 0, .string noText]) (t := 27) (by repeat (first | exact Blk.at (by simp) | refine Blk.alloc ?_ _)) hb)
    | (go_at_call 111; (with_reducible refine (HN.out _).mono ?_); rintro e w2 ⟨rfl, hb2⟩; have hR2 := Blk.below hR hb2; have r0 := hR2.cell 0; have r1 := hR2.cell 1; have r2 := hR2.cell 2; have f0 := hR2.frozen 0; have f1 := hR2.frozen 1; have f2 := hR2.frozen 2; simp only [List.getElem?_toArray, List.getElem?_cons_zero, List.getElem?_cons_succ] at r0 r1 r2; have hw2 := Below.trans hw1 (hb2.mono hw1.size)))
  refine bodyPost_ret ?_ rfl ⟨rfl, ?_⟩
  · simp [results, Tryz.results87, go_sem, r0, r1, r2]
  · exact ((hw2.setCell (by simp <;> omega) _).setCell (by simp <;> omega) _).setCell (by simp <;> omega) _

end Go.Proofs.YtippffjhkinfoaaGreatDoor
