/-
  The contract of datum's Apply at two arguments that may be: it returns what its part for the operator returns; it makes memory of its own alone.
  Conditions: the two values lie in one block, and the part and Right behave as said.
-/
import Derived.Test.YtkobjlmnbfkgaaaDoorRight
import Derived.Test.YtkobjlmnbfkgaaaDoorCells
import Derived.LoopN
import Derived.Test.YtkobjlmnbfkgaaaDoorPosts
namespace Go.Proofs.YtkobjlmnbfkgaaaDoor
open Go.RowKit

set_option maxHeartbeats 4000000 in
set_option maxRecDepth 100000 in
theorem apply_7 (k1 i1 : Int) (s1 : ByteArray) (k2 i2 : Int) (s2 : ByteArray) (K I E : Int) (b : Nat) (w : World)
    (HR1 : Hid (∀ w : World, Calls Tryd.prog 9 #[.agg #[.int .i64 k1, .int .i64 i1, .string s1]] w (RightPost true w))) (HR2 : Hid (∀ w : World, Calls Tryd.prog 9 #[.agg #[.int .i64 k2, .int .i64 i2, .string s2]] w (RightPost true w)))
    (HC : Hid (∀ w : World, Calls Tryd.prog 42 #[.int .i64 7, (.agg #[.int .i64 k1, .int .i64 i1, .string s1]), (.agg #[.int .i64 k2, .int .i64 i2, .string s2])] w (ResPost K I E w)))
    (a0 : w.cell? ⟨b, 0, none⟩ = some (.int .i64 k1)) (a1 : w.cell? ⟨b, 1, none⟩ = some (.int .i64 i1)) (a2 : w.cell? ⟨b, 2, none⟩ = some (.string s1))
    (b0 : w.cell? ⟨b, 3, none⟩ = some (.int .i64 k2)) (b1 : w.cell? ⟨b, 4, none⟩ = some (.int .i64 i2)) (b2 : w.cell? ⟨b, 5, none⟩ = some (.string s2)) :
    Calls Tryd.prog 15 #[.int .i64 7, .slice (some ⟨b, 0, none⟩) 2 2] w (ResPost K I E w) := by
  have hbw : b < w.heap.size := World.block_lt_of_cell? w _ a0
  have hB0 := Lib.hid (Blk.new w #[.int .i64 0, .int .i64 0, .string noText] 23)
  go_enter Tryd.func15, Tryd.ntmps15
  go_wp2_with (go_at_call 34; refine (arity_two _ _ (by omega)).mono ?_; rintro e w' ⟨rfl, rfl⟩)
  refine wp_loop_rounds 3 ?_
  rw [rounds_succ]
  go_wp2_with (go_at_call 9; (first | (with_reducible refine (HR1.out _).mono ?_) | (with_reducible refine (HR2.out _).mono ?_)); (rintro e w1 ⟨rfl, hb1⟩; have hw1 : Below w.heap.size w w1 := Below.trans (((Below.refl _ _).alloc (Nat.le_refl _) _).alloc (by simp <;> omega) _) (hb1.mono (by simp <;> omega)); have a01 := cell_later hw1 a0; have a11 := cell_later hw1 a1; have a21 := cell_later hw1 a2; have b01 := cell_later hw1 b0; have b11 := cell_later hw1 b1; have b21 := cell_later hw1 b2; have hsz1 : w.heap.size < w1.heap.size := by have hz9 := hb1.size; simp at hz9; omega))
  have hB1 := Lib.hid ((hB0.out.alloc _).below hb1)
  clear hb1
  rw [rounds_succ]
  go_wp2_with (go_at_call 9; (first | (with_reducible refine (HR2.out _).mono ?_) | (with_reducible refine (HR1.out _).mono ?_)); (rintro e w2 ⟨rfl, hb2⟩; have hw2 : Below w.heap.size w w2 := Below.trans (hw1.alloc (by omega) _) (hb2.mono (by simp <;> omega)); have a02 := cell_later hw2 a0; have a12 := cell_later hw2 a1; have a22 := cell_later hw2 a2; have b02 := cell_later hw2 b0; have b12 := cell_later hw2 b1; have b22 := cell_later hw2 b2; have hsz2 : w.heap.size < w2.heap.size := by have hz9 := hb2.size; simp at hz9; omega))
  have hB2 := Lib.hid ((hB1.out.alloc _).below hb2)
  clear hb2 a0 a1 a2 b0 b1 b2 a01 a11 a21 b01 b11 b21
  rw [rounds_succ]
  go_wp2_with fail
  have hne : b ≠ w.heap.size := by omega
  go_region_held3 (fun w' => w'.cell? ⟨b, 0, none⟩ = some (.int .i64 k1) ∧ w'.cell? ⟨b, 1, none⟩ = some (.int .i64 i1) ∧ w'.cell? ⟨b, 2, none⟩ = some (.string s1)
     ∧ w'.cell? ⟨b, 3, none⟩ = some (.int .i64 k2) ∧ w'.cell? ⟨b, 4, none⟩ = some (.int .i64 i2) ∧ w'.cell? ⟨b, 5, none⟩ = some (.string s2))
    (first
      | (go_split_ands; exact ⟨cell_later hb (by assumption), cell_later hb (by assumption), cell_later hb (by assumption), cell_later hb (by assumption), cell_later hb (by assumption), cell_later hb (by assumption)⟩)
      | exact ⟨a02, a12, a22, b02, b12, b22⟩
      | (go_split_ands; exact ⟨cell_set3 hne (by assumption), cell_set3 hne (by assumption), cell_set3 hne (by assumption), cell_set3 hne (by assumption), cell_set3 hne (by assumption), cell_set3 hne (by assumption)⟩)
      | go_keep)
    (first | (go_at_call 42; (with_reducible refine (HC.out _).mono ?_); rintro e w' ⟨rfl, hb⟩; have hB3 := hB2.out.drew.below hb; have r0 := hB3.cell 0; have r1 := hB3.cell 1; have r2 := hB3.cell 2; have f0 := hB3.frozen 0; have f1 := hB3.frozen 1; have f2 := hB3.frozen 2; simp only [List.getElem?_toArray, List.getElem?_cons_zero, List.getElem?_cons_succ] at r0 r1 r2))
  go_split_ands
  go_wp2
  refine bodyPost_ret ?_ rfl ⟨rfl, ?_⟩
  · simp [results, Tryd.results15, go_sem, r0, r1, r2]
  · exact (((hw2.drew.trans (hb.mono (Below.size hw2.drew))).setCell (by simp) _).setCell (by simp) _).setCell (by simp) _

set_option maxHeartbeats 4000000 in
set_option maxRecDepth 100000 in
theorem apply_8 (k1 i1 : Int) (s1 : ByteArray) (k2 i2 : Int) (s2 : ByteArray) (K I E : Int) (b : Nat) (w : World)
    (HR1 : Hid (∀ w : World, Calls Tryd.prog 9 #[.agg #[.int .i64 k1, .int .i64 i1, .string s1]] w (RightPost true w))) (HR2 : Hid (∀ w : World, Calls Tryd.prog 9 #[.agg #[.int .i64 k2, .int .i64 i2, .string s2]] w (RightPost true w)))
    (HC : Hid (∀ w : World, Calls Tryd.prog 42 #[.int .i64 8, (.agg #[.int .i64 k1, .int .i64 i1, .string s1]), (.agg #[.int .i64 k2, .int .i64 i2, .string s2])] w (ResPost K I E w)))
    (a0 : w.cell? ⟨b, 0, none⟩ = some (.int .i64 k1)) (a1 : w.cell? ⟨b, 1, none⟩ = some (.int .i64 i1)) (a2 : w.cell? ⟨b, 2, none⟩ = some (.string s1))
    (b0 : w.cell? ⟨b, 3, none⟩ = some (.int .i64 k2)) (b1 : w.cell? ⟨b, 4, none⟩ = some (.int .i64 i2)) (b2 : w.cell? ⟨b, 5, none⟩ = some (.string s2)) :
    Calls Tryd.prog 15 #[.int .i64 8, .slice (some ⟨b, 0, none⟩) 2 2] w (ResPost K I E w) := by
  have hbw : b < w.heap.size := World.block_lt_of_cell? w _ a0
  have hB0 := Lib.hid (Blk.new w #[.int .i64 0, .int .i64 0, .string noText] 23)
  go_enter Tryd.func15, Tryd.ntmps15
  go_wp2_with (go_at_call 34; refine (arity_two _ _ (by omega)).mono ?_; rintro e w' ⟨rfl, rfl⟩)
  refine wp_loop_rounds 3 ?_
  rw [rounds_succ]
  go_wp2_with (go_at_call 9; (first | (with_reducible refine (HR1.out _).mono ?_) | (with_reducible refine (HR2.out _).mono ?_)); (rintro e w1 ⟨rfl, hb1⟩; have hw1 : Below w.heap.size w w1 := Below.trans (((Below.refl _ _).alloc (Nat.le_refl _) _).alloc (by simp <;> omega) _) (hb1.mono (by simp <;> omega)); have a01 := cell_later hw1 a0; have a11 := cell_later hw1 a1; have a21 := cell_later hw1 a2; have b01 := cell_later hw1 b0; have b11 := cell_later hw1 b1; have b21 := cell_later hw1 b2; have hsz1 : w.heap.size < w1.heap.size := by have hz9 := hb1.size; simp at hz9; omega))
  have hB1 := Lib.hid ((hB0.out.alloc _).below hb1)
  clear hb1
  rw [rounds_succ]
  go_wp2_with (go_at_call 9; (first | (with_reducible refine (HR2.out _).mono ?_) | (with_reducible refine (HR1.out _).mono ?_)); (rintro e w2 ⟨rfl, hb2⟩; have hw2 : Below w.heap.size w w2 := Below.trans (hw1.alloc (by omega) _) (hb2.mono (by simp <;> omega)); have a02 := cell_later hw2 a0; have a12 := cell_later hw2 a1; have a22 := cell_later hw2 a2; have b02 := cell_later hw2 b0; have b12 := cell_later hw2 b1; have b22 := cell_later hw2 b2; have hsz2 : w.heap.size < w2.heap.size := by have hz9 := hb2.size; simp at hz9; omega))
  have hB2 := Lib.hid ((hB1.out.alloc _).below hb2)
  clear hb2 a0 a1 a2 b0 b1 b2 a01 a11 a21 b01 b11 b21
  rw [rounds_succ]
  go_wp2_with fail
  have hne : b ≠ w.heap.size := by omega
  go_region_held3 (fun w' => w'.cell? ⟨b, 0, none⟩ = some (.int .i64 k1) ∧ w'.cell? ⟨b, 1, none⟩ = some (.int .i64 i1) ∧ w'.cell? ⟨b, 2, none⟩ = some (.string s1)
     ∧ w'.cell? ⟨b, 3, none⟩ = some (.int .i64 k2) ∧ w'.cell? ⟨b, 4, none⟩ = some (.int .i64 i2) ∧ w'.cell? ⟨b, 5, none⟩ = some (.string s2))
    (first
      | (go_split_ands; exact ⟨cell_later hb (by assumption), cell_later hb (by assumption), cell_later hb (by assumption), cell_later hb (by assumption), cell_later hb (by assumption), cell_later hb (by assumption)⟩)
      | exact ⟨a02, a12, a22, b02, b12, b22⟩
      | (go_split_ands; exact ⟨cell_set3 hne (by assumption), cell_set3 hne (by assumption), cell_set3 hne (by assumption), cell_set3 hne (by assumption), cell_set3 hne (by assumption), cell_set3 hne (by assumption)⟩)
      | go_keep)
    (first | (go_at_call 42; (with_reducible refine (HC.out _).mono ?_); rintro e w' ⟨rfl, hb⟩; have hB3 := hB2.out.drew.below hb; have r0 := hB3.cell 0; have r1 := hB3.cell 1; have r2 := hB3.cell 2; have f0 := hB3.frozen 0; have f1 := hB3.frozen 1; have f2 := hB3.frozen 2; simp only [List.getElem?_toArray, List.getElem?_cons_zero, List.getElem?_cons_succ] at r0 r1 r2))
  go_split_ands
  go_wp2
  refine bodyPost_ret ?_ rfl ⟨rfl, ?_⟩
  · simp [results, Tryd.results15, go_sem, r0, r1, r2]
  · exact (((hw2.drew.trans (hb.mono (Below.size hw2.drew))).setCell (by simp) _).setCell (by simp) _).setCell (by simp) _

set_option maxHeartbeats 4000000 in
set_option maxRecDepth 100000 in
theorem apply_9 (k1 i1 : Int) (s1 : ByteArray) (k2 i2 : Int) (s2 : ByteArray) (K I E : Int) (b : Nat) (w : World)
    (HR1 : Hid (∀ w : World, Calls Tryd.prog 9 #[.agg #[.int .i64 k1, .int .i64 i1, .string s1]] w (RightPost true w))) (HR2 : Hid (∀ w : World, Calls Tryd.prog 9 #[.agg #[.int .i64 k2, .int .i64 i2, .string s2]] w (RightPost true w)))
    (HC : Hid (∀ w : World, Calls Tryd.prog 42 #[.int .i64 9, (.agg #[.int .i64 k1, .int .i64 i1, .string s1]), (.agg #[.int .i64 k2, .int .i64 i2, .string s2])] w (ResPost K I E w)))
    (a0 : w.cell? ⟨b, 0, none⟩ = some (.int .i64 k1)) (a1 : w.cell? ⟨b, 1, none⟩ = some (.int .i64 i1)) (a2 : w.cell? ⟨b, 2, none⟩ = some (.string s1))
    (b0 : w.cell? ⟨b, 3, none⟩ = some (.int .i64 k2)) (b1 : w.cell? ⟨b, 4, none⟩ = some (.int .i64 i2)) (b2 : w.cell? ⟨b, 5, none⟩ = some (.string s2)) :
    Calls Tryd.prog 15 #[.int .i64 9, .slice (some ⟨b, 0, none⟩) 2 2] w (ResPost K I E w) := by
  have hbw : b < w.heap.size := World.block_lt_of_cell? w _ a0
  have hB0 := Lib.hid (Blk.new w #[.int .i64 0, .int .i64 0, .string noText] 23)
  go_enter Tryd.func15, Tryd.ntmps15
  go_wp2_with (go_at_call 34; refine (arity_two _ _ (by omega)).mono ?_; rintro e w' ⟨rfl, rfl⟩)
  refine wp_loop_rounds 3 ?_
  rw [rounds_succ]
  go_wp2_with (go_at_call 9; (first | (with_reducible refine (HR1.out _).mono ?_) | (with_reducible refine (HR2.out _).mono ?_)); (rintro e w1 ⟨rfl, hb1⟩; have hw1 : Below w.heap.size w w1 := Below.trans (((Below.refl _ _).alloc (Nat.le_refl _) _).alloc (by simp <;> omega) _) (hb1.mono (by simp <;> omega)); have a01 := cell_later hw1 a0; have a11 := cell_later hw1 a1; have a21 := cell_later hw1 a2; have b01 := cell_later hw1 b0; have b11 := cell_later hw1 b1; have b21 := cell_later hw1 b2; have hsz1 : w.heap.size < w1.heap.size := by have hz9 := hb1.size; simp at hz9; omega))
  have hB1 := Lib.hid ((hB0.out.alloc _).below hb1)
  clear hb1
  rw [rounds_succ]
  go_wp2_with (go_at_call 9; (first | (with_reducible refine (HR2.out _).mono ?_) | (with_reducible refine (HR1.out _).mono ?_)); (rintro e w2 ⟨rfl, hb2⟩; have hw2 : Below w.heap.size w w2 := Below.trans (hw1.alloc (by omega) _) (hb2.mono (by simp <;> omega)); have a02 := cell_later hw2 a0; have a12 := cell_later hw2 a1; have a22 := cell_later hw2 a2; have b02 := cell_later hw2 b0; have b12 := cell_later hw2 b1; have b22 := cell_later hw2 b2; have hsz2 : w.heap.size < w2.heap.size := by have hz9 := hb2.size; simp at hz9; omega))
  have hB2 := Lib.hid ((hB1.out.alloc _).below hb2)
  clear hb2 a0 a1 a2 b0 b1 b2 a01 a11 a21 b01 b11 b21
  rw [rounds_succ]
  go_wp2_with fail
  have hne : b ≠ w.heap.size := by omega
  go_region_held3 (fun w' => w'.cell? ⟨b, 0, none⟩ = some (.int .i64 k1) ∧ w'.cell? ⟨b, 1, none⟩ = some (.int .i64 i1) ∧ w'.cell? ⟨b, 2, none⟩ = some (.string s1)
     ∧ w'.cell? ⟨b, 3, none⟩ = some (.int .i64 k2) ∧ w'.cell? ⟨b, 4, none⟩ = some (.int .i64 i2) ∧ w'.cell? ⟨b, 5, none⟩ = some (.string s2))
    (first
      | (go_split_ands; exact ⟨cell_later hb (by assumption), cell_later hb (by assumption), cell_later hb (by assumption), cell_later hb (by assumption), cell_later hb (by assumption), cell_later hb (by assumption)⟩)
      | exact ⟨a02, a12, a22, b02, b12, b22⟩
      | (go_split_ands; exact ⟨cell_set3 hne (by assumption), cell_set3 hne (by assumption), cell_set3 hne (by assumption), cell_set3 hne (by assumption), cell_set3 hne (by assumption), cell_set3 hne (by assumption)⟩)
      | go_keep)
    (first | (go_at_call 42; (with_reducible refine (HC.out _).mono ?_); rintro e w' ⟨rfl, hb⟩; have hB3 := hB2.out.drew.below hb; have r0 := hB3.cell 0; have r1 := hB3.cell 1; have r2 := hB3.cell 2; have f0 := hB3.frozen 0; have f1 := hB3.frozen 1; have f2 := hB3.frozen 2; simp only [List.getElem?_toArray, List.getElem?_cons_zero, List.getElem?_cons_succ] at r0 r1 r2))
  go_split_ands
  go_wp2
  refine bodyPost_ret ?_ rfl ⟨rfl, ?_⟩
  · simp [results, Tryd.results15, go_sem, r0, r1, r2]
  · exact (((hw2.drew.trans (hb.mono (Below.size hw2.drew))).setCell (by simp) _).setCell (by simp) _).setCell (by simp) _

end Go.Proofs.YtkobjlmnbfkgaaaDoor
