/-
  The contract of datum's Apply at one argument that may be: it returns what its part for the operator returns; it makes memory of its own alone.
  Conditions: the two values lie in one block, and the part and Right behave as said.
-/
import Derived.Test.YtkobjlmnbfkgaaaDoorRight
import Derived.Test.YtkobjlmnbfkgaaaDoorCells
import Derived.LoopN
import Derived.Test.YtkobjlmnbfkgaaaDoorPosts
namespace Go.Proofs.YtkobjlmnbfkgaaaDoor
open Go.RowKit

set_option maxHeartbeats 4000000 in
set_option maxRecDepth 100000 in
theorem apply_2 (k1 i1 : Int) (s1 : ByteArray) (K I E : Int) (b : Nat) (w : World)
    (HR1 : Hid (∀ w : World, Calls Tryd.prog 9 #[.agg #[.int .i64 k1, .int .i64 i1, .string s1]] w (RightPost true w)))
    (HC : Hid (∀ w : World, Calls Tryd.prog 35 #[.agg #[.int .i64 k1, .int .i64 i1, .string s1]] w (ResPost K I E w)))
    (a0 : w.cell? ⟨b, 0, none⟩ = some (.int .i64 k1)) (a1 : w.cell? ⟨b, 1, none⟩ = some (.int .i64 i1)) (a2 : w.cell? ⟨b, 2, none⟩ = some (.string s1)) :
    Calls Tryd.prog 15 #[.int .i64 2, .slice (some ⟨b, 0, none⟩) 1 1] w (ResPost K I E w) := by
  have hbw : b < w.heap.size := World.block_lt_of_cell? w _ a0
  have hB0 := Lib.hid (Blk.new w #[.int .i64 0, .int .i64 0, .string noText] 23)
  go_enter Tryd.func15, Tryd.ntmps15
  go_wp2_with (go_at_call 34; refine (arity_one _ _ (by omega)).mono ?_; rintro e w' ⟨rfl, rfl⟩)
  refine wp_loop_rounds 2 ?_
  rw [rounds_succ]
  go_wp2_with (go_at_call 9; (with_reducible refine (HR1.out _).mono ?_); (rintro e w1 ⟨rfl, hb1⟩; have hw1 : Below w.heap.size w w1 := Below.trans (((Below.refl _ _).alloc (Nat.le_refl _) _).alloc (by simp <;> omega) _) (hb1.mono (by simp <;> omega)); have a01 := cell_later hw1 a0; have a11 := cell_later hw1 a1; have a21 := cell_later hw1 a2; have hsz1 : w.heap.size < w1.heap.size := by have hz9 := hb1.size; simp at hz9; omega))
  have hB1 := Lib.hid ((hB0.out.alloc _).below hb1)
  clear hb1 a0 a1 a2
  rw [rounds_succ]
  go_wp2_with (go_at_call 35; (with_reducible refine (HC.out _).mono ?_); rintro e w2 ⟨rfl, hb⟩; have hB3 := hB1.out.below hb; have r0 := hB3.cell 0; have r1 := hB3.cell 1; have r2 := hB3.cell 2; have f0 := hB3.frozen 0; have f1 := hB3.frozen 1; have f2 := hB3.frozen 2; simp only [List.getElem?_toArray, List.getElem?_cons_zero, List.getElem?_cons_succ] at r0 r1 r2)
  refine bodyPost_ret ?_ rfl ⟨rfl, ?_⟩
  · simp [results, Tryd.results15, go_sem, r0, r1, r2]
  · exact (((hw1.trans (hb.mono (Below.size hw1))).setCell (by simp) _).setCell (by simp) _).setCell (by simp) _

set_option maxHeartbeats 4000000 in
set_option maxRecDepth 100000 in
theorem apply_1 (k1 i1 : Int) (s1 : ByteArray) (K I E : Int) (b : Nat) (w : World)
    (HR1 : Hid (∀ w : World, Calls Tryd.prog 9 #[.agg #[.int .i64 k1, .int .i64 i1, .string s1]] w (RightPost true w)))
    (HC : Hid (∀ w : World, Calls Tryd.prog 39 #[.int .i64 1, .agg #[.int .i64 k1, .int .i64 i1, .string s1]] w (ResPost K I E w)))
    (a0 : w.cell? ⟨b, 0, none⟩ = some (.int .i64 k1)) (a1 : w.cell? ⟨b, 1, none⟩ = some (.int .i64 i1)) (a2 : w.cell? ⟨b, 2, none⟩ = some (.string s1)) :
    Calls Tryd.prog 15 #[.int .i64 1, .slice (some ⟨b, 0, none⟩) 1 1] w (ResPost K I E w) := by
  have hbw : b < w.heap.size := World.block_lt_of_cell? w _ a0
  have hB0 := Lib.hid (Blk.new w #[.int .i64 0, .int .i64 0, .string noText] 23)
  go_enter Tryd.func15, Tryd.ntmps15
  go_wp2_with (go_at_call 34; refine (arity_one _ _ (by omega)).mono ?_; rintro e w' ⟨rfl, rfl⟩)
  refine wp_loop_rounds 2 ?_
  rw [rounds_succ]
  go_wp2_with (go_at_call 9; (with_reducible refine (HR1.out _).mono ?_); (rintro e w1 ⟨rfl, hb1⟩; have hw1 : Below w.heap.size w w1 := Below.trans (((Below.refl _ _).alloc (Nat.le_refl _) _).alloc (by simp <;> omega) _) (hb1.mono (by simp <;> omega)); have a01 := cell_later hw1 a0; have a11 := cell_later hw1 a1; have a21 := cell_later hw1 a2; have hsz1 : w.heap.size < w1.heap.size := by have hz9 := hb1.size; simp at hz9; omega))
  have hB1 := Lib.hid ((hB0.out.alloc _).below hb1)
  clear hb1 a0 a1 a2
  rw [rounds_succ]
  go_wp2_with (go_at_call 39; (with_reducible refine (HC.out _).mono ?_); rintro e w2 ⟨rfl, hb⟩; have hB3 := hB1.out.below hb; have r0 := hB3.cell 0; have r1 := hB3.cell 1; have r2 := hB3.cell 2; have f0 := hB3.frozen 0; have f1 := hB3.frozen 1; have f2 := hB3.frozen 2; simp only [List.getElem?_toArray, List.getElem?_cons_zero, List.getElem?_cons_succ] at r0 r1 r2)
  refine bodyPost_ret ?_ rfl ⟨rfl, ?_⟩
  · simp [results, Tryd.results15, go_sem, r0, r1, r2]
  · exact (((hw1.trans (hb.mono (Below.size hw1))).setCell (by simp) _).setCell (by simp) _).setCell (by simp) _

set_option maxHeartbeats 4000000 in
set_option maxRecDepth 100000 in
theorem apply_19 (k1 i1 : Int) (s1 : ByteArray) (K I E : Int) (b : Nat) (w : World)
    (HR1 : Hid (∀ w : World, Calls Tryd.prog 9 #[.agg #[.int .i64 k1, .int .i64 i1, .string s1]] w (RightPost true w)))
    (HC : Hid (∀ w : World, Calls Tryd.prog 39 #[.int .i64 19, .agg #[.int .i64 k1, .int .i64 i1, .string s1]] w (ResPost K I E w)))
    (a0 : w.cell? ⟨b, 0, none⟩ = some (.int .i64 k1)) (a1 : w.cell? ⟨b, 1, none⟩ = some (.int .i64 i1)) (a2 : w.cell? ⟨b, 2, none⟩ = some (.string s1)) :
    Calls Tryd.prog 15 #[.int .i64 19, .slice (some ⟨b, 0, none⟩) 1 1] w (ResPost K I E w) := by
  have hbw : b < w.heap.size := World.block_lt_of_cell? w _ a0
  have hB0 := Lib.hid (Blk.new w #[.int .i64 0, .int .i64 0, .string noText] 23)
  go_enter Tryd.func15, Tryd.ntmps15
  go_wp2_with (go_at_call 34; refine (arity_one _ _ (by omega)).mono ?_; rintro e w' ⟨rfl, rfl⟩)
  refine wp_loop_rounds 2 ?_
  rw [rounds_succ]
  go_wp2_with (go_at_call 9; (with_reducible refine (HR1.out _).mono ?_); (rintro e w1 ⟨rfl, hb1⟩; have hw1 : Below w.heap.size w w1 := Below.trans (((Below.refl _ _).alloc (Nat.le_refl _) _).alloc (by simp <;> omega) _) (hb1.mono (by simp <;> omega)); have a01 := cell_later hw1 a0; have a11 := cell_later hw1 a1; have a21 := cell_later hw1 a2; have hsz1 : w.heap.size < w1.heap.size := by have hz9 := hb1.size; simp at hz9; omega))
  have hB1 := Lib.hid ((hB0.out.alloc _).below hb1)
  clear hb1 a0 a1 a2
  rw [rounds_succ]
  go_wp2_with (go_at_call 39; (with_reducible refine (HC.out _).mono ?_); rintro e w2 ⟨rfl, hb⟩; have hB3 := hB1.out.below hb; have r0 := hB3.cell 0; have r1 := hB3.cell 1; have r2 := hB3.cell 2; have f0 := hB3.frozen 0; have f1 := hB3.frozen 1; have f2 := hB3.frozen 2; simp only [List.getElem?_toArray, List.getElem?_cons_zero, List.getElem?_cons_succ] at r0 r1 r2)
  refine bodyPost_ret ?_ rfl ⟨rfl, ?_⟩
  · simp [results, Tryd.results15, go_sem, r0, r1, r2]
  · exact (((hw1.trans (hb.mono (Below.size hw1))).setCell (by simp) _).setCell (by simp) _).setCell (by simp) _

set_option maxHeartbeats 4000000 in
set_option maxRecDepth 100000 in
theorem apply_20 (k1 i1 : Int) (s1 : ByteArray) (K I E : Int) (b : Nat) (w : World)
    (HR1 : Hid (∀ w : World, Calls Tryd.prog 9 #[.agg #[.int .i64 k1, .int .i64 i1, .string s1]] w (RightPost true w)))
    (HC : Hid (∀ w : World, Calls Tryd.prog 39 #[.int .i64 20, .agg #[.int .i64 k1, .int .i64 i1, .string s1]] w (ResPost K I E w)))
    (a0 : w.cell? ⟨b, 0, none⟩ = some (.int .i64 k1)) (a1 : w.cell? ⟨b, 1, none⟩ = some (.int .i64 i1)) (a2 : w.cell? ⟨b, 2, none⟩ = some (.string s1)) :
    Calls Tryd.prog 15 #[.int .i64 20, .slice (some ⟨b, 0, none⟩) 1 1] w (ResPost K I E w) := by
  have hbw : b < w.heap.size := World.block_lt_of_cell? w _ a0
  have hB0 := Lib.hid (Blk.new w #[.int .i64 0, .int .i64 0, .string noText] 23)
  go_enter Tryd.func15, Tryd.ntmps15
  go_wp2_with (go_at_call 34; refine (arity_one _ _ (by omega)).mono ?_; rintro e w' ⟨rfl, rfl⟩)
  refine wp_loop_rounds 2 ?_
  rw [rounds_succ]
  go_wp2_with (go_at_call 9; (with_reducible refine (HR1.out _).mono ?_); (rintro e w1 ⟨rfl, hb1⟩; have hw1 : Below w.heap.size w w1 := Below.trans (((Below.refl _ _).alloc (Nat.le_refl _) _).alloc (by simp <;> omega) _) (hb1.mono (by simp <;> omega)); have a01 := cell_later hw1 a0; have a11 := cell_later hw1 a1; have a21 := cell_later hw1 a2; have hsz1 : w.heap.size < w1.heap.size := by have hz9 := hb1.size; simp at hz9; omega))
  have hB1 := Lib.hid ((hB0.out.alloc _).below hb1)
  clear hb1 a0 a1 a2
  rw [rounds_succ]
  go_wp2_with (go_at_call 39; (with_reducible refine (HC.out _).mono ?_); rintro e w2 ⟨rfl, hb⟩; have hB3 := hB1.out.below hb; have r0 := hB3.cell 0; have r1 := hB3.cell 1; have r2 := hB3.cell 2; have f0 := hB3.frozen 0; have f1 := hB3.frozen 1; have f2 := hB3.frozen 2; simp only [List.getElem?_toArray, List.getElem?_cons_zero, List.getElem?_cons_succ] at r0 r1 r2)
  refine bodyPost_ret ?_ rfl ⟨rfl, ?_⟩
  · simp [results, Tryd.results15, go_sem, r0, r1, r2]
  · exact (((hw1.trans (hb.mono (Below.size hw1))).setCell (by simp) _).setCell (by simp) _).setCell (by simp) _

set_option maxHeartbeats 4000000 in
set_option maxRecDepth 100000 in
theorem apply_18 (k1 i1 : Int) (s1 : ByteArray) (K I E : Int) (b : Nat) (w : World)
    (HR1 : Hid (∀ w : World, Calls Tryd.prog 9 #[.agg #[.int .i64 k1, .int .i64 i1, .string s1]] w (RightPost true w)))
    (HC : Hid (∀ w : World, Calls Tryd.prog 41 #[.agg #[.int .i64 k1, .int .i64 i1, .string s1]] w (ResPost K I E w)))
    (a0 : w.cell? ⟨b, 0, none⟩ = some (.int .i64 k1)) (a1 : w.cell? ⟨b, 1, none⟩ = some (.int .i64 i1)) (a2 : w.cell? ⟨b, 2, none⟩ = some (.string s1)) :
    Calls Tryd.prog 15 #[.int .i64 18, .slice (some ⟨b, 0, none⟩) 1 1] w (ResPost K I E w) := by
  have hbw : b < w.heap.size := World.block_lt_of_cell? w _ a0
  have hB0 := Lib.hid (Blk.new w #[.int .i64 0, .int .i64 0, .string noText] 23)
  go_enter Tryd.func15, Tryd.ntmps15
  go_wp2_with (go_at_call 34; refine (arity_one _ _ (by omega)).mono ?_; rintro e w' ⟨rfl, rfl⟩)
  refine wp_loop_rounds 2 ?_
  rw [rounds_succ]
  go_wp2_with (go_at_call 9; (with_reducible refine (HR1.out _).mono ?_); (rintro e w1 ⟨rfl, hb1⟩; have hw1 : Below w.heap.size w w1 := Below.trans (((Below.refl _ _).alloc (Nat.le_refl _) _).alloc (by simp <;> omega) _) (hb1.mono (by simp <;> omega)); have a01 := cell_later hw1 a0; have a11 := cell_later hw1 a1; have a21 := cell_later hw1 a2; have hsz1 : w.heap.size < w1.heap.size := by have hz9 := hb1.size; simp at hz9; omega))
  have hB1 := Lib.hid ((hB0.out.alloc _).below hb1)
  clear hb1 a0 a1 a2
  rw [rounds_succ]
  go_wp2_with (go_at_call 41; (with_reducible refine (HC.out _).mono ?_); rintro e w2 ⟨rfl, hb⟩; have hB3 := hB1.out.below hb; have r0 := hB3.cell 0; have r1 := hB3.cell 1; have r2 := hB3.cell 2; have f0 := hB3.frozen 0; have f1 := hB3.frozen 1; have f2 := hB3.frozen 2; simp only [List.getElem?_toArray, List.getElem?_cons_zero, List.getElem?_cons_succ] at r0 r1 r2)
  refine bodyPost_ret ?_ rfl ⟨rfl, ?_⟩
  · simp [results, Tryd.results15, go_sem, r0, r1, r2]
  · exact (((hw1.trans (hb.mono (Below.size hw1))).setCell (by simp) _).setCell (by simp) _).setCell (by simp) _

end Go.Proofs.YtkobjlmnbfkgaaaDoor
