/-
  The reference's whole numbers: sums.
-/
import Derived.Test.YtippffjhkinfoaaGreatDoorBig4
namespace Go.Proofs.YtippffjhkinfoaaGreatDoor
open Go.RowKit

/-- A whole number in memory of the call's own comes back. -/
def BigPost (z : Int) (w : World) (e : Ending) (w' : World) : Prop := ∃ m sl L, e = .returned (.agg #[.bool m, sl]) ∧ DigB w' w.heap.size sl L ∧ Norm L ∧ zOf m L = z ∧ Below w.heap.size w w'
theorem zOf_dec (L : List Int) : zOf (decide (0 < L.length)) L = -valD L := by cases L <;> simp [zOf, valD]
set_option maxRecDepth 100000 in
set_option maxHeartbeats 4000000 in
theorem plus_same_f (v1 v2 : Value) (L1 L2 : List Int) (w : World) (h1 : DigV w v1 L1) (h2 : DigV w v2 L2) (n1 : Norm L1) (n2 : Norm L2) (l1 : L1.length ≤ 5000) (l2 : L2.length ≤ 5000) :
    Calls Tryz.prog 69 #[.agg #[.bool false, v1], .agg #[.bool false, v2]] w (BigPost (zOf false L1 + zOf false L2) w) := by
  have hb3 := (((Below.refl w.heap.size w).alloc (Nat.le_refl _) (Obj.cells #[Value.bool false, v1] 73)).alloc (by simp) (Obj.cells #[Value.bool false, v2] 73)).alloc (by simp; omega) (Obj.cells #[Value.bool false, Value.slice none 0 0] 73)
  have s1 := ((Blk.new w #[Value.bool false, v1] 73).alloc (Obj.cells #[Value.bool false, v2] 73)).alloc (Obj.cells #[Value.bool false, Value.slice none 0 0] 73)
  have s2 := (Blk.atB (w := w.alloc (Obj.cells #[Value.bool false, v1] 73)) (b := w.heap.size + 1) (cs := #[Value.bool false, v2]) (t := 73) (by simp)).alloc (Obj.cells #[Value.bool false, Value.slice none 0 0] 73)
  have s3 := Blk.atB (w := (w.alloc (Obj.cells #[Value.bool false, v1] 73)).alloc (Obj.cells #[Value.bool false, v2] 73)) (b := w.heap.size + 1 + 1) (cs := #[Value.bool false, Value.slice none 0 0]) (t := 73) (by simp)
  have hz3 : ((((w.alloc (Obj.cells #[Value.bool false, v1] 73)).alloc (Obj.cells #[Value.bool false, v2] 73)).alloc (Obj.cells #[Value.bool false, Value.slice none 0 0] 73))).heap.size = w.heap.size + 3 := by simp
  have D1 := Lib.hid (h1.below hb3)
  have D2 := Lib.hid (h2.below hb3)
  have HZ3 := Lib.hid hz3
  clear hz3 h1 h2
  have HT := Lib.hid (fun W (hW : Below (((w.alloc (Obj.cells #[Value.bool false, v1] 73)).alloc (Obj.cells #[Value.bool false, v2] 73)).alloc (Obj.cells #[Value.bool false, Value.slice none 0 0] 73)).heap.size (((w.alloc (Obj.cells #[Value.bool false, v1] 73)).alloc (Obj.cells #[Value.bool false, v2] 73)).alloc (Obj.cells #[Value.bool false, Value.slice none 0 0] 73)) W) => added_any false false v1 v2 L1 L2 W (D1.out.below hW) (D2.out.below hW) n1 n2 l1 l2)
  clear D1 D2
  go_enter Tryz.func69, Tryz.ntmps69
  go_wp2_with (go_at_call 68; refine (HT.out _ (Below.refl _ _)).mono ?_; rintro e w4 ⟨v', L, rfl, hd, hn, hv, hbb⟩; obtain ⟨A', c', rfl, _, _⟩ := DigV.open hd.1; have b1 := s1.below hbb; have b2 := s2.below hbb; have bR := s3.below hbb; have bO := Blk.new w4 #[Value.bool false, Value.slice none 0 0] 73; have x0 := fun X => (b1.alloc X).cell 0; have y0 := fun X => (b2.alloc X).cell 0; have r0 := fun X => (bR.alloc X).cell 0; have r1 := fun X => (bR.alloc X).cell 1; have g0 := fun X => (bR.alloc X).frozen 0; have g1 := fun X => (bR.alloc X).frozen 1; simp only [List.getElem?_toArray, List.getElem?_cons_zero, List.getElem?_cons_succ] at x0 y0 r0 r1)
  have bF := ((bR.alloc (.cells #[.bool false, .slice A' L.length c'] 73)).set 0 (.bool false)).set 1 (.slice A' L.length c')
  have d0 := bF.cell 0
  have d1 := bF.cell 1
  simp only [List.setIfInBounds_toArray, List.set_cons_zero, List.set_cons_succ, List.getElem?_toArray, List.getElem?_cons_zero, List.getElem?_cons_succ] at d0 d1
  have hz4 := hbb.size
  rw [HZ3.out] at hz4
  refine bodyPost_ret (v := .agg #[.bool false, .slice A' L.length c']) (by simp [results, Tryz.results69, go_sem, d0, d1]) rfl ⟨_, _, L, rfl, ?_, hn, by simp [zOf]; exact hv, ((((hb3.trans (hbb.mono hb3.size)).alloc (by omega) _).setCell (by simp; omega) _).setCell (by simp; omega) _)⟩
  exact (((hd.below ((Below.refl _ _).alloc (Nat.le_refl _) _)).set (by rw [HZ3.out]; omega)).set (by rw [HZ3.out]; omega)).more (by rw [HZ3.out]; omega)
set_option maxRecDepth 100000 in
set_option maxHeartbeats 4000000 in
theorem plus_same_t (v1 v2 : Value) (L1 L2 : List Int) (w : World) (h1 : DigV w v1 L1) (h2 : DigV w v2 L2) (n1 : Norm L1) (n2 : Norm L2) (l1 : L1.length ≤ 5000) (l2 : L2.length ≤ 5000) :
    Calls Tryz.prog 69 #[.agg #[.bool true, v1], .agg #[.bool true, v2]] w (BigPost (zOf true L1 + zOf true L2) w) := by
  have hb3 := (((Below.refl w.heap.size w).alloc (Nat.le_refl _) (Obj.cells #[Value.bool true, v1] 73)).alloc (by simp) (Obj.cells #[Value.bool true, v2] 73)).alloc (by simp; omega) (Obj.cells #[Value.bool false, Value.slice none 0 0] 73)
  have s1 := ((Blk.new w #[Value.bool true, v1] 73).alloc (Obj.cells #[Value.bool true, v2] 73)).alloc (Obj.cells #[Value.bool false, Value.slice none 0 0] 73)
  have s2 := (Blk.atB (w := w.alloc (Obj.cells #[Value.bool true, v1] 73)) (b := w.heap.size + 1) (cs := #[Value.bool true, v2]) (t := 73) (by simp)).alloc (Obj.cells #[Value.bool false, Value.slice none 0 0] 73)
  have s3 := Blk.atB (w := (w.alloc (Obj.cells #[Value.bool true, v1] 73)).alloc (Obj.cells #[Value.bool true, v2] 73)) (b := w.heap.size + 1 + 1) (cs := #[Value.bool false, Value.slice none 0 0]) (t := 73) (by simp)
  have hz3 : ((((w.alloc (Obj.cells #[Value.bool true, v1] 73)).alloc (Obj.cells #[Value.bool true, v2] 73)).alloc (Obj.cells #[Value.bool false, Value.slice none 0 0] 73))).heap.size = w.heap.size + 3 := by simp
  have D1 := Lib.hid (h1.below hb3)
  have D2 := Lib.hid (h2.below hb3)
  have HZ3 := Lib.hid hz3
  clear hz3 h1 h2
  have HT := Lib.hid (fun W (hW : Below (((w.alloc (Obj.cells #[Value.bool true, v1] 73)).alloc (Obj.cells #[Value.bool true, v2] 73)).alloc (Obj.cells #[Value.bool false, Value.slice none 0 0] 73)).heap.size (((w.alloc (Obj.cells #[Value.bool true, v1] 73)).alloc (Obj.cells #[Value.bool true, v2] 73)).alloc (Obj.cells #[Value.bool false, Value.slice none 0 0] 73)) W) => added_any true true v1 v2 L1 L2 W (D1.out.below hW) (D2.out.below hW) n1 n2 l1 l2)
  clear D1 D2
  go_enter Tryz.func69, Tryz.ntmps69
  go_wp2_with (go_at_call 68; refine (HT.out _ (Below.refl _ _)).mono ?_; rintro e w4 ⟨v', L, rfl, hd, hn, hv, hbb⟩; obtain ⟨A', c', rfl, _, _⟩ := DigV.open hd.1; have b1 := s1.below hbb; have b2 := s2.below hbb; have bR := s3.below hbb; have bO := Blk.new w4 #[Value.bool false, Value.slice none 0 0] 73; have x0 := fun X => (b1.alloc X).cell 0; have y0 := fun X => (b2.alloc X).cell 0; have r0 := fun X => (bR.alloc X).cell 0; have r1 := fun X => (bR.alloc X).cell 1; have g0 := fun X => (bR.alloc X).frozen 0; have g1 := fun X => (bR.alloc X).frozen 1; simp only [List.getElem?_toArray, List.getElem?_cons_zero, List.getElem?_cons_succ] at x0 y0 r0 r1)
  have bF := ((bR.alloc (.cells #[.bool (decide (0 < L.length)), .slice A' L.length c'] 73)).set 0 (.bool (decide (0 < L.length)))).set 1 (.slice A' L.length c')
  have d0 := bF.cell 0
  have d1 := bF.cell 1
  simp only [List.setIfInBounds_toArray, List.set_cons_zero, List.set_cons_succ, List.getElem?_toArray, List.getElem?_cons_zero, List.getElem?_cons_succ] at d0 d1
  have hz4 := hbb.size
  rw [HZ3.out] at hz4
  refine bodyPost_ret (v := .agg #[.bool (decide (0 < L.length)), .slice A' L.length c']) (by simp [results, Tryz.results69, go_sem, d0, d1]) rfl ⟨_, _, L, rfl, ?_, hn, by rw [zOf_dec, hv]; simp [zOf]; omega, ((((hb3.trans (hbb.mono hb3.size)).alloc (by omega) _).setCell (by simp; omega) _).setCell (by simp; omega) _)⟩
  exact (((hd.below ((Below.refl _ _).alloc (Nat.le_refl _) _)).set (by rw [HZ3.out]; omega)).set (by rw [HZ3.out]; omega)).more (by rw [HZ3.out]; omega)
set_option maxRecDepth 100000 in
set_option maxHeartbeats 4000000 in
theorem plus_eq_ft (v1 v2 : Value) (L1 L2 : List Int) (w : World) (h1 : DigV w v1 L1) (h2 : DigV w v2 L2) (n1 : Norm L1) (n2 : Norm L2) (l1 : L1.length ≤ 5000) (hc : valD L1 = valD L2) :
    Calls Tryz.prog 69 #[.agg #[.bool false, v1], .agg #[.bool true, v2]] w (BigPost (zOf false L1 + zOf true L2) w) := by
  have hb3 := (((Below.refl w.heap.size w).alloc (Nat.le_refl _) (Obj.cells #[Value.bool false, v1] 73)).alloc (by simp) (Obj.cells #[Value.bool true, v2] 73)).alloc (by simp; omega) (Obj.cells #[Value.bool false, Value.slice none 0 0] 73)
  have s1 := ((Blk.new w #[Value.bool false, v1] 73).alloc (Obj.cells #[Value.bool true, v2] 73)).alloc (Obj.cells #[Value.bool false, Value.slice none 0 0] 73)
  have s2 := (Blk.atB (w := w.alloc (Obj.cells #[Value.bool false, v1] 73)) (b := w.heap.size + 1) (cs := #[Value.bool true, v2]) (t := 73) (by simp)).alloc (Obj.cells #[Value.bool false, Value.slice none 0 0] 73)
  have s3 := Blk.atB (w := (w.alloc (Obj.cells #[Value.bool false, v1] 73)).alloc (Obj.cells #[Value.bool true, v2] 73)) (b := w.heap.size + 1 + 1) (cs := #[Value.bool false, Value.slice none 0 0]) (t := 73) (by simp)
  have hz3 : ((((w.alloc (Obj.cells #[Value.bool false, v1] 73)).alloc (Obj.cells #[Value.bool true, v2] 73)).alloc (Obj.cells #[Value.bool false, Value.slice none 0 0] 73))).heap.size = w.heap.size + 3 := by simp
  have D1 := Lib.hid (h1.below hb3)
  have D2 := Lib.hid (h2.below hb3)
  have HZ3 := Lib.hid hz3
  clear hz3 h1 h2
  have HA : Hid (∀ W, Below (((w.alloc (Obj.cells #[Value.bool false, v1] 73)).alloc (Obj.cells #[Value.bool true, v2] 73)).alloc (Obj.cells #[Value.bool false, Value.slice none 0 0] 73)).heap.size (((w.alloc (Obj.cells #[Value.bool false, v1] 73)).alloc (Obj.cells #[Value.bool true, v2] 73)).alloc (Obj.cells #[Value.bool false, Value.slice none 0 0] 73)) W → Calls Tryz.prog 66 #[.agg #[.bool false, v1], .agg #[.bool true, v2]] W fun e w' => e = .returned (.int .i64 0) ∧ Below W.heap.size W w') := fun W hW => by
    have h := amounts_any false true v1 v2 L1 L2 W (D1.out.below hW) (D2.out.below hW) n1 n2 l1
    rwa [hc, ordI_self] at h
  have HC : Hid (zOf false L1 + zOf true L2 = 0) := by unfold Hid zOf; simp; omega
  clear D1 D2
  go_enter Tryz.func69, Tryz.ntmps69
  go_wp2_with (go_at_call 66; refine (HA.out _ (Below.refl _ _)).mono ?_; rintro e w4 ⟨rfl, hbb⟩; have b1 := s1.below hbb; have b2 := s2.below hbb; have bR := s3.below hbb; have x0 := b1.cell 0; have y0 := b2.cell 0; have r0 := bR.cell 0; have r1 := bR.cell 1; have g0 := bR.frozen 0; have g1 := bR.frozen 1; simp only [List.getElem?_toArray, List.getElem?_cons_zero, List.getElem?_cons_succ] at x0 y0 r0 r1)
  have bF := (bR.set 0 (.bool false)).set 1 (.slice none 0 0)
  have d0 := bF.cell 0
  have d1 := bF.cell 1
  simp only [List.setIfInBounds_toArray, List.set_cons_zero, List.set_cons_succ, List.getElem?_toArray, List.getElem?_cons_zero, List.getElem?_cons_succ] at d0 d1
  refine bodyPost_ret (v := .agg #[.bool false, .slice none 0 0]) (by simp [results, Tryz.results69, go_sem, d0, d1]) rfl ⟨_, _, [], rfl, ⟨.inl ⟨rfl, rfl⟩, fun b off n c e => by cases e⟩, Norm.nil, by rw [HC.out]; rfl, (((hb3.trans (hbb.mono hb3.size)).setCell (by simp; omega) _).setCell (by simp; omega) _)⟩
set_option maxRecDepth 100000 in
set_option maxHeartbeats 4000000 in
theorem plus_gt_ft (v1 v2 : Value) (L1 L2 : List Int) (w : World) (h1 : DigV w v1 L1) (h2 : DigV w v2 L2) (n1 : Norm L1) (n2 : Norm L2) (l1 : L1.length ≤ 5000) (hc : valD L2 < valD L1) :
    Calls Tryz.prog 69 #[.agg #[.bool false, v1], .agg #[.bool true, v2]] w (BigPost (zOf false L1 + zOf true L2) w) := by
  have hb3 := (((Below.refl w.heap.size w).alloc (Nat.le_refl _) (Obj.cells #[Value.bool false, v1] 73)).alloc (by simp) (Obj.cells #[Value.bool true, v2] 73)).alloc (by simp; omega) (Obj.cells #[Value.bool false, Value.slice none 0 0] 73)
  have s1 := ((Blk.new w #[Value.bool false, v1] 73).alloc (Obj.cells #[Value.bool true, v2] 73)).alloc (Obj.cells #[Value.bool false, Value.slice none 0 0] 73)
  have s2 := (Blk.atB (w := w.alloc (Obj.cells #[Value.bool false, v1] 73)) (b := w.heap.size + 1) (cs := #[Value.bool true, v2]) (t := 73) (by simp)).alloc (Obj.cells #[Value.bool false, Value.slice none 0 0] 73)
  have s3 := Blk.atB (w := (w.alloc (Obj.cells #[Value.bool false, v1] 73)).alloc (Obj.cells #[Value.bool true, v2] 73)) (b := w.heap.size + 1 + 1) (cs := #[Value.bool false, Value.slice none 0 0]) (t := 73) (by simp)
  have hz3 : ((((w.alloc (Obj.cells #[Value.bool false, v1] 73)).alloc (Obj.cells #[Value.bool true, v2] 73)).alloc (Obj.cells #[Value.bool false, Value.slice none 0 0] 73))).heap.size = w.heap.size + 3 := by simp
  have D1 := Lib.hid (h1.below hb3)
  have D2 := Lib.hid (h2.below hb3)
  have HZ3 := Lib.hid hz3
  clear hz3 h1 h2
  have HA : Hid (∀ W, Below (((w.alloc (Obj.cells #[Value.bool false, v1] 73)).alloc (Obj.cells #[Value.bool true, v2] 73)).alloc (Obj.cells #[Value.bool false, Value.slice none 0 0] 73)).heap.size (((w.alloc (Obj.cells #[Value.bool false, v1] 73)).alloc (Obj.cells #[Value.bool true, v2] 73)).alloc (Obj.cells #[Value.bool false, Value.slice none 0 0] 73)) W → Calls Tryz.prog 66 #[.agg #[.bool false, v1], .agg #[.bool true, v2]] W fun e w' => e = .returned (.int .i64 1) ∧ Below W.heap.size W w') := fun W hW => by
    have h := amounts_any false true v1 v2 L1 L2 W (D1.out.below hW) (D2.out.below hW) n1 n2 l1
    have ho : ordI (valD L1) (valD L2) = 1 := by unfold ordI; rw [if_neg (by omega), if_pos hc]
    rwa [ho] at h
  have HT := Lib.hid (fun W (hW : Below (((w.alloc (Obj.cells #[Value.bool false, v1] 73)).alloc (Obj.cells #[Value.bool true, v2] 73)).alloc (Obj.cells #[Value.bool false, Value.slice none 0 0] 73)).heap.size (((w.alloc (Obj.cells #[Value.bool false, v1] 73)).alloc (Obj.cells #[Value.bool true, v2] 73)).alloc (Obj.cells #[Value.bool false, Value.slice none 0 0] 73)) W) => less_any false true v1 v2 L1 L2 W (D1.out.below hW) (D2.out.below hW) n1.1 n2.1 l1 (Norm.len_le n1.1 n2 (by omega)) (by omega))
  have HC : Hid (zOf false L1 + zOf true L2 = (valD L1 - valD L2)) := by unfold Hid zOf; simp; omega
  clear D1 D2
  go_enter Tryz.func69, Tryz.ntmps69
  go_wp2_with fail
  refine (HA.out _ (Below.refl _ _)).mono ?_
  rintro e w4 ⟨rfl, hb4⟩
  have p1 := s1.below hb4
  have p2 := s2.below hb4
  have p10 := p1.cell 0
  have p11 := p1.cell 1
  have p20 := p2.cell 0
  have p21 := p2.cell 1
  simp only [List.getElem?_toArray, List.getElem?_cons_zero, List.getElem?_cons_succ] at p10 p11 p20 p21
  go_wp2_with fail
  refine (HA.out _ hb4).mono ?_
  rintro e w5 ⟨rfl, hb5⟩
  have hb5' := hb4.trans (hb5.mono hb4.size)
  have q1 := s1.below hb5'
  have q2 := s2.below hb5'
  have q10 := q1.cell 0
  have q11 := q1.cell 1
  have q20 := q2.cell 0
  have q21 := q2.cell 1
  simp only [List.getElem?_toArray, List.getElem?_cons_zero, List.getElem?_cons_succ] at q10 q11 q20 q21
  go_wp2_with (go_at_call 95; refine (HT.out _ hb5').mono ?_; rintro e w6 ⟨v', L, rfl, hd, hn, hv, hb6⟩; obtain ⟨A', c', rfl, _, _⟩ := DigV.open hd.1; have hbb := hb5'.trans (hb6.mono hb5'.size); have b1 := s1.below hbb; have b2 := s2.below hbb; have bR := s3.below hbb; have x0 := fun X => (b1.alloc X).cell 0; have y0 := fun X => (b2.alloc X).cell 0; have r0 := fun X => (bR.alloc X).cell 0; have r1 := fun X => (bR.alloc X).cell 1; have g0 := fun X => (bR.alloc X).frozen 0; have g1 := fun X => (bR.alloc X).frozen 1; simp only [List.getElem?_toArray, List.getElem?_cons_zero, List.getElem?_cons_succ] at x0 y0 r0 r1)
  have bF := ((bR.alloc (.cells #[.bool false, .slice A' L.length c'] 73)).set 0 (.bool false)).set 1 (.slice A' L.length c')
  have d0 := bF.cell 0
  have d1 := bF.cell 1
  simp only [List.setIfInBounds_toArray, List.set_cons_zero, List.set_cons_succ, List.getElem?_toArray, List.getElem?_cons_zero, List.getElem?_cons_succ] at d0 d1
  have hz4 := hbb.size
  have hz5 := hb5'.size
  rw [HZ3.out] at hz4 hz5
  refine bodyPost_ret (v := .agg #[.bool false, .slice A' L.length c']) (by simp [results, Tryz.results69, go_sem, d0, d1]) rfl ⟨_, _, L, rfl, ?_, hn, by rw [HC.out, ← hv]; rfl, ((((hb3.trans (hbb.mono hb3.size)).alloc (by omega) _).setCell (by simp; omega) _).setCell (by simp; omega) _)⟩
  exact (((hd.below ((Below.refl _ _).alloc (Nat.le_refl _) _)).set (by omega)).set (by omega)).more (by omega)
set_option maxRecDepth 100000 in
set_option maxHeartbeats 4000000 in
theorem plus_lt_ft (v1 v2 : Value) (L1 L2 : List Int) (w : World) (h1 : DigV w v1 L1) (h2 : DigV w v2 L2) (n1 : Norm L1) (n2 : Norm L2) (l1 : L1.length ≤ 5000) (l2 : L2.length ≤ 5000) (hc : valD L1 < valD L2) :
    Calls Tryz.prog 69 #[.agg #[.bool false, v1], .agg #[.bool true, v2]] w (BigPost (zOf false L1 + zOf true L2) w) := by
  have hb3 := (((Below.refl w.heap.size w).alloc (Nat.le_refl _) (Obj.cells #[Value.bool false, v1] 73)).alloc (by simp) (Obj.cells #[Value.bool true, v2] 73)).alloc (by simp; omega) (Obj.cells #[Value.bool false, Value.slice none 0 0] 73)
  have s1 := ((Blk.new w #[Value.bool false, v1] 73).alloc (Obj.cells #[Value.bool true, v2] 73)).alloc (Obj.cells #[Value.bool false, Value.slice none 0 0] 73)
  have s2 := (Blk.atB (w := w.alloc (Obj.cells #[Value.bool false, v1] 73)) (b := w.heap.size + 1) (cs := #[Value.bool true, v2]) (t := 73) (by simp)).alloc (Obj.cells #[Value.bool false, Value.slice none 0 0] 73)
  have s3 := Blk.atB (w := (w.alloc (Obj.cells #[Value.bool false, v1] 73)).alloc (Obj.cells #[Value.bool true, v2] 73)) (b := w.heap.size + 1 + 1) (cs := #[Value.bool false, Value.slice none 0 0]) (t := 73) (by simp)
  have hz3 : ((((w.alloc (Obj.cells #[Value.bool false, v1] 73)).alloc (Obj.cells #[Value.bool true, v2] 73)).alloc (Obj.cells #[Value.bool false, Value.slice none 0 0] 73))).heap.size = w.heap.size + 3 := by simp
  have D1 := Lib.hid (h1.below hb3)
  have D2 := Lib.hid (h2.below hb3)
  have HZ3 := Lib.hid hz3
  clear hz3 h1 h2
  have HA : Hid (∀ W, Below (((w.alloc (Obj.cells #[Value.bool false, v1] 73)).alloc (Obj.cells #[Value.bool true, v2] 73)).alloc (Obj.cells #[Value.bool false, Value.slice none 0 0] 73)).heap.size (((w.alloc (Obj.cells #[Value.bool false, v1] 73)).alloc (Obj.cells #[Value.bool true, v2] 73)).alloc (Obj.cells #[Value.bool false, Value.slice none 0 0] 73)) W → Calls Tryz.prog 66 #[.agg #[.bool false, v1], .agg #[.bool true, v2]] W fun e w' => e = .returned (.int .i64 (-1)) ∧ Below W.heap.size W w') := fun W hW => by
    have h := amounts_any false true v1 v2 L1 L2 W (D1.out.below hW) (D2.out.below hW) n1 n2 l1
    have ho : ordI (valD L1) (valD L2) = (-1) := by unfold ordI; rw [if_pos hc]
    rwa [ho] at h
  have HT := Lib.hid (fun W (hW : Below (((w.alloc (Obj.cells #[Value.bool false, v1] 73)).alloc (Obj.cells #[Value.bool true, v2] 73)).alloc (Obj.cells #[Value.bool false, Value.slice none 0 0] 73)).heap.size (((w.alloc (Obj.cells #[Value.bool false, v1] 73)).alloc (Obj.cells #[Value.bool true, v2] 73)).alloc (Obj.cells #[Value.bool false, Value.slice none 0 0] 73)) W) => less_any true false v2 v1 L2 L1 W (D2.out.below hW) (D1.out.below hW) n2.1 n1.1 l2 (Norm.len_le n2.1 n1 (by omega)) (by omega))
  have HC : Hid (zOf false L1 + zOf true L2 = -(valD L2 - valD L1)) := by unfold Hid zOf; simp; omega
  clear D1 D2
  go_enter Tryz.func69, Tryz.ntmps69
  go_wp2_with fail
  refine (HA.out _ (Below.refl _ _)).mono ?_
  rintro e w4 ⟨rfl, hb4⟩
  have p1 := s1.below hb4
  have p2 := s2.below hb4
  have p10 := p1.cell 0
  have p11 := p1.cell 1
  have p20 := p2.cell 0
  have p21 := p2.cell 1
  simp only [List.getElem?_toArray, List.getElem?_cons_zero, List.getElem?_cons_succ] at p10 p11 p20 p21
  go_wp2_with fail
  refine (HA.out _ hb4).mono ?_
  rintro e w5 ⟨rfl, hb5⟩
  have hb5' := hb4.trans (hb5.mono hb4.size)
  have q1 := s1.below hb5'
  have q2 := s2.below hb5'
  have q10 := q1.cell 0
  have q11 := q1.cell 1
  have q20 := q2.cell 0
  have q21 := q2.cell 1
  simp only [List.getElem?_toArray, List.getElem?_cons_zero, List.getElem?_cons_succ] at q10 q11 q20 q21
  go_wp2_with (go_at_call 95; refine (HT.out _ hb5').mono ?_; rintro e w6 ⟨v', L, rfl, hd, hn, hv, hb6⟩; obtain ⟨A', c', rfl, _, _⟩ := DigV.open hd.1; have hbb := hb5'.trans (hb6.mono hb5'.size); have b1 := s1.below hbb; have b2 := s2.below hbb; have bR := s3.below hbb; have x0 := fun X => (b1.alloc X).cell 0; have y0 := fun X => (b2.alloc X).cell 0; have r0 := fun X => (bR.alloc X).cell 0; have r1 := fun X => (bR.alloc X).cell 1; have g0 := fun X => (bR.alloc X).frozen 0; have g1 := fun X => (bR.alloc X).frozen 1; simp only [List.getElem?_toArray, List.getElem?_cons_zero, List.getElem?_cons_succ] at x0 y0 r0 r1)
  have bF := ((bR.alloc (.cells #[.bool true, .slice A' L.length c'] 73)).set 0 (.bool true)).set 1 (.slice A' L.length c')
  have d0 := bF.cell 0
  have d1 := bF.cell 1
  simp only [List.setIfInBounds_toArray, List.set_cons_zero, List.set_cons_succ, List.getElem?_toArray, List.getElem?_cons_zero, List.getElem?_cons_succ] at d0 d1
  have hz4 := hbb.size
  have hz5 := hb5'.size
  rw [HZ3.out] at hz4 hz5
  refine bodyPost_ret (v := .agg #[.bool true, .slice A' L.length c']) (by simp [results, Tryz.results69, go_sem, d0, d1]) rfl ⟨_, _, L, rfl, ?_, hn, by rw [HC.out, ← hv]; rfl, ((((hb3.trans (hbb.mono hb3.size)).alloc (by omega) _).setCell (by simp; omega) _).setCell (by simp; omega) _)⟩
  exact (((hd.below ((Below.refl _ _).alloc (Nat.le_refl _) _)).set (by omega)).set (by omega)).more (by omega)
set_option maxRecDepth 100000 in
set_option maxHeartbeats 4000000 in
theorem plus_eq_tf (v1 v2 : Value) (L1 L2 : List Int) (w : World) (h1 : DigV w v1 L1) (h2 : DigV w v2 L2) (n1 : Norm L1) (n2 : Norm L2) (l1 : L1.length ≤ 5000) (hc : valD L1 = valD L2) :
    Calls Tryz.prog 69 #[.agg #[.bool true, v1], .agg #[.bool false, v2]] w (BigPost (zOf true L1 + zOf false L2) w) := by
  have hb3 := (((Below.refl w.heap.size w).alloc (Nat.le_refl _) (Obj.cells #[Value.bool true, v1] 73)).alloc (by simp) (Obj.cells #[Value.bool false, v2] 73)).alloc (by simp; omega) (Obj.cells #[Value.bool false, Value.slice none 0 0] 73)
  have s1 := ((Blk.new w #[Value.bool true, v1] 73).alloc (Obj.cells #[Value.bool false, v2] 73)).alloc (Obj.cells #[Value.bool false, Value.slice none 0 0] 73)
  have s2 := (Blk.atB (w := w.alloc (Obj.cells #[Value.bool true, v1] 73)) (b := w.heap.size + 1) (cs := #[Value.bool false, v2]) (t := 73) (by simp)).alloc (Obj.cells #[Value.bool false, Value.slice none 0 0] 73)
  have s3 := Blk.atB (w := (w.alloc (Obj.cells #[Value.bool true, v1] 73)).alloc (Obj.cells #[Value.bool false, v2] 73)) (b := w.heap.size + 1 + 1) (cs := #[Value.bool false, Value.slice none 0 0]) (t := 73) (by simp)
  have hz3 : ((((w.alloc (Obj.cells #[Value.bool true, v1] 73)).alloc (Obj.cells #[Value.bool false, v2] 73)).alloc (Obj.cells #[Value.bool false, Value.slice none 0 0] 73))).heap.size = w.heap.size + 3 := by simp
  have D1 := Lib.hid (h1.below hb3)
  have D2 := Lib.hid (h2.below hb3)
  have HZ3 := Lib.hid hz3
  clear hz3 h1 h2
  have HA : Hid (∀ W, Below (((w.alloc (Obj.cells #[Value.bool true, v1] 73)).alloc (Obj.cells #[Value.bool false, v2] 73)).alloc (Obj.cells #[Value.bool false, Value.slice none 0 0] 73)).heap.size (((w.alloc (Obj.cells #[Value.bool true, v1] 73)).alloc (Obj.cells #[Value.bool false, v2] 73)).alloc (Obj.cells #[Value.bool false, Value.slice none 0 0] 73)) W → Calls Tryz.prog 66 #[.agg #[.bool true, v1], .agg #[.bool false, v2]] W fun e w' => e = .returned (.int .i64 0) ∧ Below W.heap.size W w') := fun W hW => by
    have h := amounts_any true false v1 v2 L1 L2 W (D1.out.below hW) (D2.out.below hW) n1 n2 l1
    rwa [hc, ordI_self] at h
  have HC : Hid (zOf true L1 + zOf false L2 = 0) := by unfold Hid zOf; simp; omega
  clear D1 D2
  go_enter Tryz.func69, Tryz.ntmps69
  go_wp2_with (go_at_call 66; refine (HA.out _ (Below.refl _ _)).mono ?_; rintro e w4 ⟨rfl, hbb⟩; have b1 := s1.below hbb; have b2 := s2.below hbb; have bR := s3.below hbb; have x0 := b1.cell 0; have y0 := b2.cell 0; have r0 := bR.cell 0; have r1 := bR.cell 1; have g0 := bR.frozen 0; have g1 := bR.frozen 1; simp only [List.getElem?_toArray, List.getElem?_cons_zero, List.getElem?_cons_succ] at x0 y0 r0 r1)
  have bF := (bR.set 0 (.bool false)).set 1 (.slice none 0 0)
  have d0 := bF.cell 0
  have d1 := bF.cell 1
  simp only [List.setIfInBounds_toArray, List.set_cons_zero, List.set_cons_succ, List.getElem?_toArray, List.getElem?_cons_zero, List.getElem?_cons_succ] at d0 d1
  refine bodyPost_ret (v := .agg #[.bool false, .slice none 0 0]) (by simp [results, Tryz.results69, go_sem, d0, d1]) rfl ⟨_, _, [], rfl, ⟨.inl ⟨rfl, rfl⟩, fun b off n c e => by cases e⟩, Norm.nil, by rw [HC.out]; rfl, (((hb3.trans (hbb.mono hb3.size)).setCell (by simp; omega) _).setCell (by simp; omega) _)⟩
set_option maxRecDepth 100000 in
set_option maxHeartbeats 4000000 in
theorem plus_gt_tf (v1 v2 : Value) (L1 L2 : List Int) (w : World) (h1 : DigV w v1 L1) (h2 : DigV w v2 L2) (n1 : Norm L1) (n2 : Norm L2) (l1 : L1.length ≤ 5000) (hc : valD L2 < valD L1) :
    Calls Tryz.prog 69 #[.agg #[.bool true, v1], .agg #[.bool false, v2]] w (BigPost (zOf true L1 + zOf false L2) w) := by
  have hb3 := (((Below.refl w.heap.size w).alloc (Nat.le_refl _) (Obj.cells #[Value.bool true, v1] 73)).alloc (by simp) (Obj.cells #[Value.bool false, v2] 73)).alloc (by simp; omega) (Obj.cells #[Value.bool false, Value.slice none 0 0] 73)
  have s1 := ((Blk.new w #[Value.bool true, v1] 73).alloc (Obj.cells #[Value.bool false, v2] 73)).alloc (Obj.cells #[Value.bool false, Value.slice none 0 0] 73)
  have s2 := (Blk.atB (w := w.alloc (Obj.cells #[Value.bool true, v1] 73)) (b := w.heap.size + 1) (cs := #[Value.bool false, v2]) (t := 73) (by simp)).alloc (Obj.cells #[Value.bool false, Value.slice none 0 0] 73)
  have s3 := Blk.atB (w := (w.alloc (Obj.cells #[Value.bool true, v1] 73)).alloc (Obj.cells #[Value.bool false, v2] 73)) (b := w.heap.size + 1 + 1) (cs := #[Value.bool false, Value.slice none 0 0]) (t := 73) (by simp)
  have hz3 : ((((w.alloc (Obj.cells #[Value.bool true, v1] 73)).alloc (Obj.cells #[Value.bool false, v2] 73)).alloc (Obj.cells #[Value.bool false, Value.slice none 0 0] 73))).heap.size = w.heap.size + 3 := by simp
  have D1 := Lib.hid (h1.below hb3)
  have D2 := Lib.hid (h2.below hb3)
  have HZ3 := Lib.hid hz3
  clear hz3 h1 h2
  have HA : Hid (∀ W, Below (((w.alloc (Obj.cells #[Value.bool true, v1] 73)).alloc (Obj.cells #[Value.bool false, v2] 73)).alloc (Obj.cells #[Value.bool false, Value.slice none 0 0] 73)).heap.size (((w.alloc (Obj.cells #[Value.bool true, v1] 73)).alloc (Obj.cells #[Value.bool false, v2] 73)).alloc (Obj.cells #[Value.bool false, Value.slice none 0 0] 73)) W → Calls Tryz.prog 66 #[.agg #[.bool true, v1], .agg #[.bool false, v2]] W fun e w' => e = .returned (.int .i64 1) ∧ Below W.heap.size W w') := fun W hW => by
    have h := amounts_any true false v1 v2 L1 L2 W (D1.out.below hW) (D2.out.below hW) n1 n2 l1
    have ho : ordI (valD L1) (valD L2) = 1 := by unfold ordI; rw [if_neg (by omega), if_pos hc]
    rwa [ho] at h
  have HT := Lib.hid (fun W (hW : Below (((w.alloc (Obj.cells #[Value.bool true, v1] 73)).alloc (Obj.cells #[Value.bool false, v2] 73)).alloc (Obj.cells #[Value.bool false, Value.slice none 0 0] 73)).heap.size (((w.alloc (Obj.cells #[Value.bool true, v1] 73)).alloc (Obj.cells #[Value.bool false, v2] 73)).alloc (Obj.cells #[Value.bool false, Value.slice none 0 0] 73)) W) => less_any true false v1 v2 L1 L2 W (D1.out.below hW) (D2.out.below hW) n1.1 n2.1 l1 (Norm.len_le n1.1 n2 (by omega)) (by omega))
  have HC : Hid (zOf true L1 + zOf false L2 = -(valD L1 - valD L2)) := by unfold Hid zOf; simp; omega
  clear D1 D2
  go_enter Tryz.func69, Tryz.ntmps69
  go_wp2_with fail
  refine (HA.out _ (Below.refl _ _)).mono ?_
  rintro e w4 ⟨rfl, hb4⟩
  have p1 := s1.below hb4
  have p2 := s2.below hb4
  have p10 := p1.cell 0
  have p11 := p1.cell 1
  have p20 := p2.cell 0
  have p21 := p2.cell 1
  simp only [List.getElem?_toArray, List.getElem?_cons_zero, List.getElem?_cons_succ] at p10 p11 p20 p21
  go_wp2_with fail
  refine (HA.out _ hb4).mono ?_
  rintro e w5 ⟨rfl, hb5⟩
  have hb5' := hb4.trans (hb5.mono hb4.size)
  have q1 := s1.below hb5'
  have q2 := s2.below hb5'
  have q10 := q1.cell 0
  have q11 := q1.cell 1
  have q20 := q2.cell 0
  have q21 := q2.cell 1
  simp only [List.getElem?_toArray, List.getElem?_cons_zero, List.getElem?_cons_succ] at q10 q11 q20 q21
  go_wp2_with (go_at_call 95; refine (HT.out _ hb5').mono ?_; rintro e w6 ⟨v', L, rfl, hd, hn, hv, hb6⟩; obtain ⟨A', c', rfl, _, _⟩ := DigV.open hd.1; have hbb := hb5'.trans (hb6.mono hb5'.size); have b1 := s1.below hbb; have b2 := s2.below hbb; have bR := s3.below hbb; have x0 := fun X => (b1.alloc X).cell 0; have y0 := fun X => (b2.alloc X).cell 0; have r0 := fun X => (bR.alloc X).cell 0; have r1 := fun X => (bR.alloc X).cell 1; have g0 := fun X => (bR.alloc X).frozen 0; have g1 := fun X => (bR.alloc X).frozen 1; simp only [List.getElem?_toArray, List.getElem?_cons_zero, List.getElem?_cons_succ] at x0 y0 r0 r1)
  have bF := ((bR.alloc (.cells #[.bool true, .slice A' L.length c'] 73)).set 0 (.bool true)).set 1 (.slice A' L.length c')
  have d0 := bF.cell 0
  have d1 := bF.cell 1
  simp only [List.setIfInBounds_toArray, List.set_cons_zero, List.set_cons_succ, List.getElem?_toArray, List.getElem?_cons_zero, List.getElem?_cons_succ] at d0 d1
  have hz4 := hbb.size
  have hz5 := hb5'.size
  rw [HZ3.out] at hz4 hz5
  refine bodyPost_ret (v := .agg #[.bool true, .slice A' L.length c']) (by simp [results, Tryz.results69, go_sem, d0, d1]) rfl ⟨_, _, L, rfl, ?_, hn, by rw [HC.out, ← hv]; rfl, ((((hb3.trans (hbb.mono hb3.size)).alloc (by omega) _).setCell (by simp; omega) _).setCell (by simp; omega) _)⟩
  exact (((hd.below ((Below.refl _ _).alloc (Nat.le_refl _) _)).set (by omega)).set (by omega)).more (by omega)
set_option maxRecDepth 100000 in
set_option maxHeartbeats 4000000 in
theorem plus_lt_tf (v1 v2 : Value) (L1 L2 : List Int) (w : World) (h1 : DigV w v1 L1) (h2 : DigV w v2 L2) (n1 : Norm L1) (n2 : Norm L2) (l1 : L1.length ≤ 5000) (l2 : L2.length ≤ 5000) (hc : valD L1 < valD L2) :
    Calls Tryz.prog 69 #[.agg #[.bool true, v1], .agg #[.bool false, v2]] w (BigPost (zOf true L1 + zOf false L2) w) := by
  have hb3 := (((Below.refl w.heap.size w).alloc (Nat.le_refl _) (Obj.cells #[Value.bool true, v1] 73)).alloc (by simp) (Obj.cells #[Value.bool false, v2] 73)).alloc (by simp; omega) (Obj.cells #[Value.bool false, Value.slice none 0 0] 73)
  have s1 := ((Blk.new w #[Value.bool true, v1] 73).alloc (Obj.cells #[Value.bool false, v2] 73)).alloc (Obj.cells #[Value.bool false, Value.slice none 0 0] 73)
  have s2 := (Blk.atB (w := w.alloc (Obj.cells #[Value.bool true, v1] 73)) (b := w.heap.size + 1) (cs := #[Value.bool false, v2]) (t := 73) (by simp)).alloc (Obj.cells #[Value.bool false, Value.slice none 0 0] 73)
  have s3 := Blk.atB (w := (w.alloc (Obj.cells #[Value.bool true, v1] 73)).alloc (Obj.cells #[Value.bool false, v2] 73)) (b := w.heap.size + 1 + 1) (cs := #[Value.bool false, Value.slice none 0 0]) (t := 73) (by simp)
  have hz3 : ((((w.alloc (Obj.cells #[Value.bool true, v1] 73)).alloc (Obj.cells #[Value.bool false, v2] 73)).alloc (Obj.cells #[Value.bool false, Value.slice none 0 0] 73))).heap.size = w.heap.size + 3 := by simp
  have D1 := Lib.hid (h1.below hb3)
  have D2 := Lib.hid (h2.below hb3)
  have HZ3 := Lib.hid hz3
  clear hz3 h1 h2
  have HA : Hid (∀ W, Below (((w.alloc (Obj.cells #[Value.bool true, v1] 73)).alloc (Obj.cells #[Value.bool false, v2] 73)).alloc (Obj.cells #[Value.bool false, Value.slice none 0 0] 73)).heap.size (((w.alloc (Obj.cells #[Value.bool true, v1] 73)).alloc (Obj.cells #[Value.bool false, v2] 73)).alloc (Obj.cells #[Value.bool false, Value.slice none 0 0] 73)) W → Calls Tryz.prog 66 #[.agg #[.bool true, v1], .agg #[.bool false, v2]] W fun e w' => e = .returned (.int .i64 (-1)) ∧ Below W.heap.size W w') := fun W hW => by
    have h := amounts_any true false v1 v2 L1 L2 W (D1.out.below hW) (D2.out.below hW) n1 n2 l1
    have ho : ordI (valD L1) (valD L2) = (-1) := by unfold ordI; rw [if_pos hc]
    rwa [ho] at h
  have HT := Lib.hid (fun W (hW : Below (((w.alloc (Obj.cells #[Value.bool true, v1] 73)).alloc (Obj.cells #[Value.bool false, v2] 73)).alloc (Obj.cells #[Value.bool false, Value.slice none 0 0] 73)).heap.size (((w.alloc (Obj.cells #[Value.bool true, v1] 73)).alloc (Obj.cells #[Value.bool false, v2] 73)).alloc (Obj.cells #[Value.bool false, Value.slice none 0 0] 73)) W) => less_any false true v2 v1 L2 L1 W (D2.out.below hW) (D1.out.below hW) n2.1 n1.1 l2 (Norm.len_le n2.1 n1 (by omega)) (by omega))
  have HC : Hid (zOf true L1 + zOf false L2 = (valD L2 - valD L1)) := by unfold Hid zOf; simp; omega
  clear D1 D2
  go_enter Tryz.func69, Tryz.ntmps69
  go_wp2_with fail
  refine (HA.out _ (Below.refl _ _)).mono ?_
  rintro e w4 ⟨rfl, hb4⟩
  have p1 := s1.below hb4
  have p2 := s2.below hb4
  have p10 := p1.cell 0
  have p11 := p1.cell 1
  have p20 := p2.cell 0
  have p21 := p2.cell 1
  simp only [List.getElem?_toArray, List.getElem?_cons_zero, List.getElem?_cons_succ] at p10 p11 p20 p21
  go_wp2_with fail
  refine (HA.out _ hb4).mono ?_
  rintro e w5 ⟨rfl, hb5⟩
  have hb5' := hb4.trans (hb5.mono hb4.size)
  have q1 := s1.below hb5'
  have q2 := s2.below hb5'
  have q10 := q1.cell 0
  have q11 := q1.cell 1
  have q20 := q2.cell 0
  have q21 := q2.cell 1
  simp only [List.getElem?_toArray, List.getElem?_cons_zero, List.getElem?_cons_succ] at q10 q11 q20 q21
  go_wp2_with (go_at_call 95; refine (HT.out _ hb5').mono ?_; rintro e w6 ⟨v', L, rfl, hd, hn, hv, hb6⟩; obtain ⟨A', c', rfl, _, _⟩ := DigV.open hd.1; have hbb := hb5'.trans (hb6.mono hb5'.size); have b1 := s1.below hbb; have b2 := s2.below hbb; have bR := s3.below hbb; have x0 := fun X => (b1.alloc X).cell 0; have y0 := fun X => (b2.alloc X).cell 0; have r0 := fun X => (bR.alloc X).cell 0; have r1 := fun X => (bR.alloc X).cell 1; have g0 := fun X => (bR.alloc X).frozen 0; have g1 := fun X => (bR.alloc X).frozen 1; simp only [List.getElem?_toArray, List.getElem?_cons_zero, List.getElem?_cons_succ] at x0 y0 r0 r1)
  have bF := ((bR.alloc (.cells #[.bool false, .slice A' L.length c'] 73)).set 0 (.bool false)).set 1 (.slice A' L.length c')
  have d0 := bF.cell 0
  have d1 := bF.cell 1
  simp only [List.setIfInBounds_toArray, List.set_cons_zero, List.set_cons_succ, List.getElem?_toArray, List.getElem?_cons_zero, List.getElem?_cons_succ] at d0 d1
  have hz4 := hbb.size
  have hz5 := hb5'.size
  rw [HZ3.out] at hz4 hz5
  refine bodyPost_ret (v := .agg #[.bool false, .slice A' L.length c']) (by simp [results, Tryz.results69, go_sem, d0, d1]) rfl ⟨_, _, L, rfl, ?_, hn, by rw [HC.out, ← hv]; rfl, ((((hb3.trans (hbb.mono hb3.size)).alloc (by omega) _).setCell (by simp; omega) _).setCell (by simp; omega) _)⟩
  exact (((hd.below ((Below.refl _ _).alloc (Nat.le_refl _) _)).set (by omega)).set (by omega)).more (by omega)
theorem bigPlus_any (m1 m2 : Bool) (v1 v2 : Value) (L1 L2 : List Int) (w : World) (h1 : DigV w v1 L1) (h2 : DigV w v2 L2) (n1 : Norm L1) (n2 : Norm L2) (l1 : L1.length ≤ 5000) (l2 : L2.length ≤ 5000) :
    Calls Tryz.prog 69 #[.agg #[.bool m1, v1], .agg #[.bool m2, v2]] w (BigPost (zOf m1 L1 + zOf m2 L2) w) := by
  rcases Int.lt_trichotomy (valD L1) (valD L2) with hc | hc | hc
  · cases m1 <;> cases m2
    · exact plus_same_f v1 v2 L1 L2 w h1 h2 n1 n2 l1 l2
    · exact plus_lt_ft v1 v2 L1 L2 w h1 h2 n1 n2 l1 l2 hc
    · exact plus_lt_tf v1 v2 L1 L2 w h1 h2 n1 n2 l1 l2 hc
    · exact plus_same_t v1 v2 L1 L2 w h1 h2 n1 n2 l1 l2
  · cases m1 <;> cases m2
    · exact plus_same_f v1 v2 L1 L2 w h1 h2 n1 n2 l1 l2
    · exact plus_eq_ft v1 v2 L1 L2 w h1 h2 n1 n2 l1 hc
    · exact plus_eq_tf v1 v2 L1 L2 w h1 h2 n1 n2 l1 hc
    · exact plus_same_t v1 v2 L1 L2 w h1 h2 n1 n2 l1 l2
  · cases m1 <;> cases m2
    · exact plus_same_f v1 v2 L1 L2 w h1 h2 n1 n2 l1 l2
    · exact plus_gt_ft v1 v2 L1 L2 w h1 h2 n1 n2 l1 hc
    · exact plus_gt_tf v1 v2 L1 L2 w h1 h2 n1 n2 l1 hc
    · exact plus_same_t v1 v2 L1 L2 w h1 h2 n1 n2 l1 l2

end Go.Proofs.YtippffjhkinfoaaGreatDoor
