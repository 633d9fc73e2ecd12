/-
  The reference's whole numbers: sums.
-/
import Derived.Test.YtlmjijiepnefdaaGreatDoorBigA
namespace Go.Proofs.YtlmjijiepnefdaaGreatDoor
open Go.RowKit

/-- A whole number in memory of the call's own comes back. -/
def BigPost (z : Int) (w : World) (e : Ending) (w' : World) : Prop := ∃ m sl L, e = .returned (.agg #[.bool m, sl]) ∧ DigB w' w.heap.size sl L ∧ Norm L ∧ zOf m L = z ∧ Below w.heap.size w w'
theorem zOf_dec (L : List Int) : zOf (decide (0 < L.length)) L = -valD L := by cases L <;> simp [zOf, valD]
set_option maxRecDepth 100000 in
set_option maxHeartbeats 4000000 in
theorem plus_same_f (v1 v2 : Value) (L1 L2 : List Int) (w : World) (h1 : DigV w v1 L1) (h2 : DigV w v2 L2) (n1 : Norm L1) (n2 : Norm L2) (l1 : L1.length ≤ 5000) (l2 : L2.length ≤ 5000) :
    Calls Tryz.prog 65 #[.agg #[.bool false, v1], .agg #[.bool false, v2]] w (BigPost (zOf false L1 + zOf false L2) w) := by
  have hb3 := (((Below.refl w.heap.size w).alloc (Nat.le_refl _) (Obj.cells #[Value.bool false, v1] 83)).alloc (by simp) (Obj.cells #[Value.bool false, v2] 83)).alloc (by simp; omega) (Obj.cells #[Value.bool false, Value.slice none 0 0] 83)
  have s1 := ((Blk.new w #[Value.bool false, v1] 83).alloc (Obj.cells #[Value.bool false, v2] 83)).alloc (Obj.cells #[Value.bool false, Value.slice none 0 0] 83)
  have s2 := (Blk.atB (w := w.alloc (Obj.cells #[Value.bool false, v1] 83)) (b := w.heap.size + 1) (cs := #[Value.bool false, v2]) (t := 83) (by simp)).alloc (Obj.cells #[Value.bool false, Value.slice none 0 0] 83)
  have s3 := Blk.atB (w := (w.alloc (Obj.cells #[Value.bool false, v1] 83)).alloc (Obj.cells #[Value.bool false, v2] 83)) (b := w.heap.size + 1 + 1) (cs := #[Value.bool false, Value.slice none 0 0]) (t := 83) (by simp)
  have hz3 : ((((w.alloc (Obj.cells #[Value.bool false, v1] 83)).alloc (Obj.cells #[Value.bool false, v2] 83)).alloc (Obj.cells #[Value.bool false, Value.slice none 0 0] 83))).heap.size = w.heap.size + 3 := by simp
  have D1 := Lib.hid (h1.below hb3)
  have D2 := Lib.hid (h2.below hb3)
  have HZ3 := Lib.hid hz3
  clear hz3 h1 h2
  have HT := Lib.hid (fun W (hW : Below (((w.alloc (Obj.cells #[Value.bool false, v1] 83)).alloc (Obj.cells #[Value.bool false, v2] 83)).alloc (Obj.cells #[Value.bool false, Value.slice none 0 0] 83)).heap.size (((w.alloc (Obj.cells #[Value.bool false, v1] 83)).alloc (Obj.cells #[Value.bool false, v2] 83)).alloc (Obj.cells #[Value.bool false, Value.slice none 0 0] 83)) W) => added_any false false v1 v2 L1 L2 W (D1.out.below hW) (D2.out.below hW) n1 n2 l1 l2)
  clear D1 D2
  go_enter Tryz.func65, Tryz.ntmps65
  go_wp2_with (go_at_call 84; refine (HT.out _ (Below.refl _ _)).mono ?_; rintro e w4 ⟨v', L, rfl, hd, hn, hv, hbb⟩; obtain ⟨A', c', rfl, _, _⟩ := DigV.open hd.1; have b1 := s1.below hbb; have b2 := s2.below hbb; have bR := s3.below hbb; have bO := Blk.new w4 #[Value.bool false, Value.slice none 0 0] 83; have x0 := fun X => (b1.alloc X).cell 0; have y0 := fun X => (b2.alloc X).cell 0; have r0 := fun X => (bR.alloc X).cell 0; have r1 := fun X => (bR.alloc X).cell 1; have g0 := fun X => (bR.alloc X).frozen 0; have g1 := fun X => (bR.alloc X).frozen 1; simp only [List.getElem?_toArray, List.getElem?_cons_zero, List.getElem?_cons_succ] at x0 y0 r0 r1)
  have bF := ((bR.alloc (.cells #[.bool false, .slice A' L.length c'] 83)).set 0 (.bool false)).set 1 (.slice A' L.length c')
  have d0 := bF.cell 0
  have d1 := bF.cell 1
  simp only [List.setIfInBounds_toArray, List.set_cons_zero, List.set_cons_succ, List.getElem?_toArray, List.getElem?_cons_zero, List.getElem?_cons_succ] at d0 d1
  have hz4 := hbb.size
  rw [HZ3.out] at hz4
  refine bodyPost_ret (v := .agg #[.bool false, .slice A' L.length c']) (by simp [results, Tryz.results65, go_sem, d0, d1]) rfl ⟨_, _, L, rfl, ?_, hn, by simp [zOf]; exact hv, ((((hb3.trans (hbb.mono hb3.size)).alloc (by omega) _).setCell (by simp; omega) _).setCell (by simp; omega) _)⟩
  exact (((hd.below ((Below.refl _ _).alloc (Nat.le_refl _) _)).set (by rw [HZ3.out]; omega)).set (by rw [HZ3.out]; omega)).more (by rw [HZ3.out]; omega)
set_option maxRecDepth 100000 in
set_option maxHeartbeats 4000000 in
theorem plus_same_t (v1 v2 : Value) (L1 L2 : List Int) (w : World) (h1 : DigV w v1 L1) (h2 : DigV w v2 L2) (n1 : Norm L1) (n2 : Norm L2) (l1 : L1.length ≤ 5000) (l2 : L2.length ≤ 5000) :
    Calls Tryz.prog 65 #[.agg #[.bool true, v1], .agg #[.bool true, v2]] w (BigPost (zOf true L1 + zOf true L2) w) := by
  have hb3 := (((Below.refl w.heap.size w).alloc (Nat.le_refl _) (Obj.cells #[Value.bool true, v1] 83)).alloc (by simp) (Obj.cells #[Value.bool true, v2] 83)).alloc (by simp; omega) (Obj.cells #[Value.bool false, Value.slice none 0 0] 83)
  have s1 := ((Blk.new w #[Value.bool true, v1] 83).alloc (Obj.cells #[Value.bool true, v2] 83)).alloc (Obj.cells #[Value.bool false, Value.slice none 0 0] 83)
  have s2 := (Blk.atB (w := w.alloc (Obj.cells #[Value.bool true, v1] 83)) (b := w.heap.size + 1) (cs := #[Value.bool true, v2]) (t := 83) (by simp)).alloc (Obj.cells #[Value.bool false, Value.slice none 0 0] 83)
  have s3 := Blk.atB (w := (w.alloc (Obj.cells #[Value.bool true, v1] 83)).alloc (Obj.cells #[Value.bool true, v2] 83)) (b := w.heap.size + 1 + 1) (cs := #[Value.bool false, Value.slice none 0 0]) (t := 83) (by simp)
  have hz3 : ((((w.alloc (Obj.cells #[Value.bool true, v1] 83)).alloc (Obj.cells #[Value.bool true, v2] 83)).alloc (Obj.cells #[Value.bool false, Value.slice none 0 0] 83))).heap.size = w.heap.size + 3 := by simp
  have D1 := Lib.hid (h1.below hb3)
  have D2 := Lib.hid (h2.below hb3)
  have HZ3 := Lib.hid hz3
  clear hz3 h1 h2
  have HT := Lib.hid (fun W (hW : Below (((w.alloc (Obj.cells #[Value.bool true, v1] 83)).alloc (Obj.cells #[Value.bool true, v2] 83)).alloc (Obj.cells #[Value.bool false, Value.slice none 0 0] 83)).heap.size (((w.alloc (Obj.cells #[Value.bool true, v1] 83)).alloc (Obj.cells #[Value.bool true, v2] 83)).alloc (Obj.cells #[Value.bool false, Value.slice none 0 0] 83)) W) => added_any true true v1 v2 L1 L2 W (D1.out.below hW) (D2.out.below hW) n1 n2 l1 l2)
  clear D1 D2
  go_enter Tryz.func65, Tryz.ntmps65
  go_wp2_with (go_at_call 84; refine (HT.out _ (Below.refl _ _)).mono ?_; rintro e w4 ⟨v', L, rfl, hd, hn, hv, hbb⟩; obtain ⟨A', c', rfl, _, _⟩ := DigV.open hd.1; have b1 := s1.below hbb; have b2 := s2.below hbb; have bR := s3.below hbb; have bO := Blk.new w4 #[Value.bool false, Value.slice none 0 0] 83; have x0 := fun X => (b1.alloc X).cell 0; have y0 := fun X => (b2.alloc X).cell 0; have r0 := fun X => (bR.alloc X).cell 0; have r1 := fun X => (bR.alloc X).cell 1; have g0 := fun X => (bR.alloc X).frozen 0; have g1 := fun X => (bR.alloc X).frozen 1; simp only [List.getElem?_toArray, List.getElem?_cons_zero, List.getElem?_cons_succ] at x0 y0 r0 r1)
  have bF := ((bR.alloc (.cells #[.bool (decide (0 < L.length)), .slice A' L.length c'] 83)).set 0 (.bool (decide (0 < L.length)))).set 1 (.slice A' L.length c')
  have d0 := bF.cell 0
  have d1 := bF.cell 1
  simp only [List.setIfInBounds_toArray, List.set_cons_zero, List.set_cons_succ, List.getElem?_toArray, List.getElem?_cons_zero, List.getElem?_cons_succ] at d0 d1
  have hz4 := hbb.size
  rw [HZ3.out] at hz4
  refine bodyPost_ret (v := .agg #[.bool (decide (0 < L.length)), .slice A' L.length c']) (by simp [results, Tryz.results65, go_sem, d0, d1]) rfl ⟨_, _, L, rfl, ?_, hn, by rw [zOf_dec, hv]; simp [zOf]; omega, ((((hb3.trans (hbb.mono hb3.size)).alloc (by omega) _).setCell (by simp; omega) _).setCell (by simp; omega) _)⟩
  exact (((hd.below ((Below.refl _ _).alloc (Nat.le_refl _) _)).set (by rw [HZ3.out]; omega)).set (by rw [HZ3.out]; omega)).more (by rw [HZ3.out]; omega)
set_option maxRecDepth 100000 in
set_option maxHeartbeats 4000000 in
theorem plus_eq_ft (v1 v2 : Value) (L1 L2 : List Int) (w : World) (h1 : DigV w v1 L1) (h2 : DigV w v2 L2) (n1 : Norm L1) (n2 : Norm L2) (l1 : L1.length ≤ 5000) (hc : valD L1 = valD L2) :
    Calls Tryz.prog 65 #[.agg #[.bool false, v1], .agg #[.bool true, v2]] w (BigPost (zOf false L1 + zOf true L2) w) := by
  have hb3 := (((Below.refl w.heap.size w).alloc (Nat.le_refl _) (Obj.cells #[Value.bool false, v1] 83)).alloc (by simp) (Obj.cells #[Value.bool true, v2] 83)).alloc (by simp; omega) (Obj.cells #[Value.bool false, Value.slice none 0 0] 83)
  have s1 := ((Blk.new w #[Value.bool false, v1] 83).alloc (Obj.cells #[Value.bool true, v2] 83)).alloc (Obj.cells #[Value.bool false, Value.slice none 0 0] 83)
  have s2 := (Blk.atB (w := w.alloc (Obj.cells #[Value.bool false, v1] 83)) (b := w.heap.size + 1) (cs := #[Value.bool true, v2]) (t := 83) (by simp)).alloc (Obj.cells #[Value.bool false, Value.slice none 0 0] 83)
  have s3 := Blk.atB (w := (w.alloc (Obj.cells #[Value.bool false, v1] 83)).alloc (Obj.cells #[Value.bool true, v2] 83)) (b := w.heap.size + 1 + 1) (cs := #[Value.bool false, Value.slice none 0 0]) (t := 83) (by simp)
  have hz3 : ((((w.alloc (Obj.cells #[Value.bool false, v1] 83)).alloc (Obj.cells #[Value.bool true, v2] 83)).alloc (Obj.cells #[Value.bool false, Value.slice none 0 0] 83))).heap.size = w.heap.size + 3 := by simp
  have D1 := Lib.hid (h1.below hb3)
  have D2 := Lib.hid (h2.below hb3)
  have HZ3 := Lib.hid hz3
  clear hz3 h1 h2
  have HA : Hid (∀ W, Below (((w.alloc (Obj.cells #[Value.bool false, v1] 83)).alloc (Obj.cells #[Value.bool true, v2] 83)).alloc (Obj.cells #[Value.bool false, Value.slice none 0 0] 83)).heap.size (((w.alloc (Obj.cells #[Value.bool false, v1] 83)).alloc (Obj.cells #[Value.bool true, v2] 83)).alloc (Obj.cells #[Value.bool false, Value.slice none 0 0] 83)) W → Calls Tryz.prog 85 #[.agg #[.bool false, v1], .agg #[.bool true, v2]] W fun e w' => e = .returned (.int .i64 0) ∧ Below W.heap.size W w') := fun W hW => by
    have h := amounts_any false true v1 v2 L1 L2 W (D1.out.below hW) (D2.out.below hW) n1 n2 l1
    rwa [hc, ordI_self] at h
  have HC : Hid (zOf false L1 + zOf true L2 = 0) := by unfold Hid zOf; simp; omega
  clear D1 D2
  go_enter Tryz.func65, Tryz.ntmps65
  go_wp2_with (go_at_call 85; refine (HA.out _ (Below.refl _ _)).mono ?_; rintro e w4 ⟨rfl, hbb⟩; have b1 := s1.below hbb; have b2 := s2.below hbb; have bR := s3.below hbb; have x0 := b1.cell 0; have y0 := b2.cell 0; have r0 := bR.cell 0; have r1 := bR.cell 1; have g0 := bR.frozen 0; have g1 := bR.frozen 1; simp only [List.getElem?_toArray, List.getElem?_cons_zero, List.getElem?_cons_succ] at x0 y0 r0 r1)
  have bF := (bR.set 0 (.bool false)).set 1 (.slice none 0 0)
  have d0 := bF.cell 0
  have d1 := bF.cell 1
  simp only [List.setIfInBounds_toArray, List.set_cons_zero, List.set_cons_succ, List.getElem?_toArray, List.getElem?_cons_zero, List.getElem?_cons_succ] at d0 d1
  refine bodyPost_ret (v := .agg #[.bool false, .slice none 0 0]) (by simp [results, Tryz.results65, go_sem, d0, d1]) rfl ⟨_, _, [], rfl, ⟨.inl ⟨rfl, rfl⟩, fun b off n c e => by cases e⟩, Norm.nil, by rw [HC.out]; rfl, (((hb3.trans (hbb.mono hb3.size)).setCell (by simp; omega) _).setCell (by simp; omega) _)⟩
set_option maxRecDepth 100000 in
set_option maxHeartbeats 4000000 in
theorem plus_gt_ft (v1 v2 : Value) (L1 L2 : List Int) (w : World) (h1 : DigV w v1 L1) (h2 : DigV w v2 L2) (n1 : Norm L1) (n2 : Norm L2) (l1 : L1.length ≤ 5000) (hc : valD L2 < valD L1) :
    Calls Tryz.prog 65 #[.agg #[.bool false, v1], .agg #[.bool true, v2]] w (BigPost (zOf false L1 + zOf true L2) w) := by
  have hb3 := (((Below.refl w.heap.size w).alloc (Nat.le_refl _) (Obj.cells #[Value.bool false, v1] 83)).alloc (by simp) (Obj.cells #[Value.bool true, v2] 83)).alloc (by simp; omega) (Obj.cells #[Value.bool false, Value.slice none 0 0] 83)
  have s1 := ((Blk.new w #[Value.bool false, v1] 83).alloc (Obj.cells #[Value.bool true, v2] 83)).alloc (Obj.cells #[Value.bool false, Value.slice none 0 0] 83)
  have s2 := (Blk.atB (w := w.alloc (Obj.cells #[Value.bool false, v1] 83)) (b := w.heap.size + 1) (cs := #[Value.bool true, v2]) (t := 83) (by simp)).alloc (Obj.cells #[Value.bool false, Value.slice none 0 0] 83)
  have s3 := Blk.atB (w := (w.alloc (Obj.cells #[Value.bool false, v1] 83)).alloc (Obj.cells #[Value.bool true, v2] 83)) (b := w.heap.size + 1 + 1) (cs := #[Value.bool false, Value.slice none 0 0]) (t := 83) (by simp)
  have hz3 : ((((w.alloc (Obj.cells #[Value.bool false, v1] 83)).alloc (Obj.cells #[Value.bool true, v2] 83)).alloc (Obj.cells #[Value.bool false, Value.slice none 0 0] 83))).heap.size = w.heap.size + 3 := by simp
  have D1 := Lib.hid (h1.below hb3)
  have D2 := Lib.hid (h2.below hb3)
  have HZ3 := Lib.hid hz3
  clear hz3 h1 h2
  have HA : Hid (∀ W, Below (((w.alloc (Obj.cells #[Value.bool false, v1] 83)).alloc (Obj.cells #[Value.bool true, v2] 83)).alloc (Obj.cells #[Value.bool false, Value.slice none 0 0] 83)).heap.size (((w.alloc (Obj.cells #[Value.bool false, v1] 83)).alloc (Obj.cells #[Value.bool true, v2] 83)).alloc (Obj.cells #[Value.bool false, Value.slice none 0 0] 83)) W → Calls Tryz.prog 85 #[.agg #[.bool false, v1], .agg #[.bool true, v2]] W fun e w' => e = .returned (.int .i64 1) ∧ Below W.heap.size W w') := fun W hW => by
    have h := amounts_any false true v1 v2 L1 L2 W (D1.out.below hW) (D2.out.below hW) n1 n2 l1
    have ho : ordI (valD L1) (valD L2) = 1 := by unfold ordI; rw [if_neg (by omega), if_pos hc]
    rwa [ho] at h
  have HT := Lib.hid (fun W (hW : Below (((w.alloc (Obj.cells #[Value.bool false, v1] 83)).alloc (Obj.cells #[Value.bool true, v2] 83)).alloc (Obj.cells #[Value.bool false, Value.slice none 0 0] 83)).heap.size (((w.alloc (Obj.cells #[Value.bool false, v1] 83)).alloc (Obj.cells #[Value.bool true, v2] 83)).alloc (Obj.cells #[Value.bool false, Value.slice none 0 0] 83)) W) => less_any false true v1 v2 L1 L2 W (D1.out.below hW) (D2.out.below hW) n1.1 n2.1 l1 (Norm.len_le n1.1 n2 (by omega)) (by omega))
  have HC : Hid (zOf false L1 + zOf true L2 = (valD L1 - valD L2)) := by unfold Hid zOf; simp; omega
  clear D1 D2
  go_enter Tryz.func65, Tryz.ntmps65
  go_wp2_with fail
  refine (HA.out _ (Below.refl _ _)).mono ?_
  rintro e w4 ⟨rfl, hb4⟩
  have p1 := s1.below hb4
  have p2 := s2.below hb4
  have p10 := p1.cell 0
  have p11 := p1.cell 1
  have p20 := p2.cell 0
  have p21 := p2.cell 1
  simp only [List.getElem?_toArray, List.getElem?_cons_zero, List.getElem?_cons_succ] at p10 p11 p20 p21
  go_wp2_with fail
  refine (HA.out _ hb4).mono ?_
  rintro e w5 ⟨rfl, hb5⟩
  have hb5' := hb4.trans (hb5.mono hb4.size)
  have q1 := s1.below hb5'
  have q2 := s2.below hb5'
  have q10 := q1.cell 0
  have q11 := q1.cell 1
  have q20 := q2.cell 0
  have q21 := q2.cell 1
  simp only [List.getElem?_toArray, List.getElem?_cons_zero, List.getElem?_cons_succ] at q10 q11 q20 q21
  go_wp2_with (go_at_call 86; refine (HT.out _ hb5').mono ?_; rintro e w6 ⟨v', L, rfl, hd, hn, hv, hb6⟩; obtain ⟨A', c', rfl, _, _⟩ := DigV.open hd.1; have hbb := hb5'.trans (hb6.mono hb5'.size); have b1 := s1.below hbb; have b2 := s2.below hbb; have bR := s3.below hbb; have x0 := fun X => (b1.alloc X).cell 0; have y0 := fun X => (b2.alloc X).cell 0; have r0 := fun X => (bR.alloc X).cell 0; have r1 := fun X => (bR.alloc X).cell 1; have g0 := fun X => (bR.alloc X).frozen 0; have g1 := fun X => (bR.alloc X).frozen 1; simp only [List.getElem?_toArray, List.getElem?_cons_zero, List.getElem?_cons_succ] at x0 y0 r0 r1)
  have bF := ((bR.alloc (.cells #[.bool false, .slice A' L.length c'] 83)).set 0 (.bool false)).set 1 (.slice A' L.length c')
  have d0 := bF.cell 0
  have d1 := bF.cell 1
  simp only [List.setIfInBounds_toArray, List.set_cons_zero, List.set_cons_succ, List.getElem?_toArray, List.getElem?_cons_zero, List.getElem?_cons_succ] at d0 d1
  have hz4 := hbb.size
  have hz5 := hb5'.size
  rw [HZ3.out] at hz4 hz5
  refine bodyPost_ret (v := .agg #[.bool false, .slice A' L.length c']) (by simp [results, Tryz.results65, go_sem, d0, d1]) rfl ⟨_, _, L, rfl, ?_, hn, by rw [HC.out, ← hv]; rfl, ((((hb3.trans (hbb.mono hb3.size)).alloc (by omega) _).setCell (by simp; omega) _).setCell (by simp; omega) _)⟩
  exact (((hd.below ((Below.refl _ _).alloc (Nat.le_refl _) _)).set (by omega)).set (by omega)).more (by omega)
set_option maxRecDepth 100000 in
set_option maxHeartbeats 4000000 in
theorem plus_lt_ft (v1 v2 : Value) (L1 L2 : List Int) (w : World) (h1 : DigV w v1 L1) (h2 : DigV w v2 L2) (n1 : Norm L1) (n2 : Norm L2) (l1 : L1.length ≤ 5000) (l2 : L2.length ≤ 5000) (hc : valD L1 < valD L2) :
    Calls Tryz.prog 65 #[.agg #[.bool false, v1], .agg #[.bool true, v2]] w (BigPost (zOf false L1 + zOf true L2) w) := by
  have hb3 := (((Below.refl w.heap.size w).alloc (Nat.le_refl _) (Obj.cells #[Value.bool false, v1] 83)).alloc (by simp) (Obj.cells #[Value.bool true, v2] 83)).alloc (by simp; omega) (Obj.cells #[Value.bool false, Value.slice none 0 0] 83)
  have s1 := ((Blk.new w #[Value.bool false, v1] 83).alloc (Obj.cells #[Value.bool true, v2] 83)).alloc (Obj.cells #[Value.bool false, Value.slice none 0 0] 83)
  have s2 := (Blk.atB (w := w.alloc (Obj.cells #[Value.bool false, v1] 83)) (b := w.heap.size + 1) (cs := #[Value.bool true, v2]) (t := 83) (by simp)).alloc (Obj.cells #[Value.bool false, Value.slice none 0 0] 83)
  have s3 := Blk.atB (w := (w.alloc (Obj.cells #[Value.bool false, v1] 83)).alloc (Obj.cells #[Value.bool true, v2] 83)) (b := w.heap.size + 1 + 1) (cs := #[Value.bool false, Value.slice none 0 0]) (t := 83) (by simp)
  have hz3 : ((((w.alloc (Obj.cells #[Value.bool false, v1] 83)).alloc (Obj.cells #[Value.bool true, v2] 83)).alloc (Obj.cells #[Value.bool false, Value.slice none 0 0] 83))).heap.size = w.heap.size + 3 := by simp
  have D1 := Lib.hid (h1.below hb3)
  have D2 := Lib.hid (h2.below hb3)
  have HZ3 := Lib.hid hz3
  clear hz3 h1 h2
  have HA : Hid (∀ W, Below (((w.alloc (Obj.cells #[Value.bool false, v1] 83)).alloc (Obj.cells #[Value.bool true, v2] 83)).alloc (Obj.cells #[Value.bool false, Value.slice none 0 0] 83)).heap.size (((w.alloc (Obj.cells #[Value.bool false, v1] 83)).alloc (Obj.cells #[Value.bool true, v2] 83)).alloc (Obj.cells #[Value.bool false, Value.slice none 0 0] 83)) W → Calls Tryz.prog 85 #[.agg #[.bool false, v1], .agg #[.bool true, v2]] W fun e w' => e = .returned (.int .i64 (-1)) ∧ Below W.heap.size W w') := fun W hW => by
    have h := amounts_any false true v1 v2 L1 L2 W (D1.out.below hW) (D2.out.below hW) n1 n2 l1
    have ho : ordI (valD L1) (valD L2) = (-1) := by unfold ordI; rw [if_pos hc]
    rwa [ho] at h
  have HT := Lib.hid (fun W (hW : Below (((w.alloc (Obj.cells #[Value.bool false, v1] 83)).alloc (Obj.cells #[Value.bool true, v2] 83)).alloc (Obj.cells #[Value.bool false, Value.slice none 0 0] 83)).heap.size (((w.alloc (Obj.cells #[Value.bool false, v1] 83)).alloc (Obj.cells #[Value.bool true, v2] 83)).alloc (Obj.cells #[Value.bool false, Value.slice none 0 0] 83)) W) => less_any true false v2 v1 L2 L1 W (D2.out.below hW) (D1.out.below hW) n2.1 n1.1 l2 (Norm.len_le n2.1 n1 (by omega)) (by omega))
  have HC : Hid (zOf false L1 + zOf true L2 = -(valD L2 - valD L1)) := by unfold Hid zOf; simp; omega
  clear D1 D2
  go_enter Tryz.func65, Tryz.ntmps65
  go_wp2_with fail
  refine (HA.out _ (Below.refl _ _)).mono ?_
  rintro e w4 ⟨rfl, hb4⟩
  have p1 := s1.below hb4
  have p2 := s2.below hb4
  have p10 := p1.cell 0
  have p11 := p1.cell 1
  have p20 := p2.cell 0
  have p21 := p2.cell 1
  simp only [List.getElem?_toArray, List.getElem?_cons_zero, List.getElem?_cons_succ] at p10 p11 p20 p21
  go_wp2_with fail
  refine (HA.out _ hb4).mono ?_
  rintro e w5 ⟨rfl, hb5⟩
  have hb5' := hb4.trans (hb5.mono hb4.size)
  have q1 := s1.below hb5'
  have q2 := s2.below hb5'
  have q10 := q1.cell 0
  have q11 := q1.cell 1
  have q20 := q2.cell 0
  have q21 := q2.cell 1
  simp only [List.getElem?_toArray, List.getElem?_cons_zero, List.getElem?_cons_succ] at q10 q11 q20 q21
  go_wp2_with (go_at_call 86; refine (HT.out _ hb5').mono ?_; rintro e w6 ⟨v', L, rfl, hd, hn, hv, hb6⟩; obtain ⟨A', c', rfl, _, _⟩ := DigV.open hd.1; have hbb := hb5'.trans (hb6.mono hb5'.size); have b1 := s1.below hbb; have b2 := s2.below hbb; have bR := s3.below hbb; have x0 := fun X => (b1.alloc X).cell 0; have y0 := fun X => (b2.alloc X).cell 0; have r0 := fun X => (bR.alloc X).cell 0; have r1 := fun X => (bR.alloc X).cell 1; have g0 := fun X => (bR.alloc X).frozen 0; have g1 := fun X => (bR.alloc X).frozen 1; simp only [List.getElem?_toArray, List.getElem?_cons_zero, List.getElem?_cons_succ] at x0 y0 r0 r1)
  have bF := ((bR.alloc (.cells #[.bool true, .slice A' L.length c'] 83)).set 0 (.bool true)).set 1 (.slice A' L.length c')
  have d0 := bF.cell 0
  have d1 := bF.cell 1
  simp only [List.setIfInBounds_toArray, List.set_cons_zero, List.set_cons_succ, List.getElem?_toArray, List.getElem?_cons_zero, List.getElem?_cons_succ] at d0 d1
  have hz4 := hbb.size
  have hz5 := hb5'.size
  rw [HZ3.out] at hz4 hz5
  refine bodyPost_ret (v := .agg #[.bool true, .slice A' L.length c']) (by simp [results, Tryz.results65, go_sem, d0, d1]) rfl ⟨_, _, L, rfl, ?_, hn, by rw [HC.out, ← hv]; rfl, ((((hb3.trans (hbb.mono hb3.size)).alloc (by omega) _).setCell (by simp; omega) _).setCell (by simp; omega) _)⟩
  exact (((hd.below ((Below.refl _ _).alloc (Nat.le_refl _) _)).set (by omega)).set (by omega)).more (by omega)
set_option maxRecDepth 100000 in
set_option maxHeartbeats 4000000 in
theorem plus_eq_tf (v1 v2 : Value) (L1 L2 : List Int) (w : World) (h1 : DigV w v1 L1) (h2 : DigV w v2 L2) (n1 : Norm L1) (n2 : Norm L2) (l1 : L1.length ≤ 5000) (hc : valD L1 = valD L2) :
    Calls Tryz.prog 65 #[.agg #[.bool true, v1], .agg #[.bool false, v2]] w (BigPost (zOf true L1 + zOf false L2) w) := by
  have hb3 := (((Below.refl w.heap.size w).alloc (Nat.le_refl _) (Obj.cells #[Value.bool true, v1] 83)).alloc (by simp) (Obj.cells #[Value.bool false, v2] 83)).alloc (by simp; omega) (Obj.cells #[Value.bool false, Value.slice none 0 0] 83)
  have s1 := ((Blk.new w #[Value.bool true, v1] 83).alloc (Obj.cells #[Value.bool false, v2] 83)).alloc (Obj.cells #[Value.bool false, Value.slice none 0 0] 83)
  have s2 := (Blk.atB (w := w.alloc (Obj.cells #[Value.bool true, v1] 83)) (b := w.heap.size + 1) (cs := #[Value.bool false, v2]) (t := 83) (by simp)).alloc (Obj.cells #[Value.bool false, Value.slice none 0 0] 83)
  have s3 := Blk.atB (w := (w.alloc (Obj.cells #[Value.bool true, v1] 83)).alloc (Obj.cells #[Value.bool false, v2] 83)) (b := w.heap.size + 1 + 1) (cs := #[Value.bool false, Value.slice none 0 0]) (t := 83) (by simp)
  have hz3 : ((((w.alloc (Obj.cells #[Value.bool true, v1] 83)).alloc (Obj.cells #[Value.bool false, v2] 83)).alloc (Obj.cells #[Value.bool false, Value.slice none 0 0] 83))).heap.size = w.heap.size + 3 := by simp
  have D1 := Lib.hid (h1.below hb3)
  have D2 := Lib.hid (h2.below hb3)
  have HZ3 := Lib.hid hz3
  clear hz3 h1 h2
  have HA : Hid (∀ W, Below (((w.alloc (Obj.cells #[Value.bool true, v1] 83)).alloc (Obj.cells #[Value.bool false, v2] 83)).alloc (Obj.cells #[Value.bool false, Value.slice none 0 0] 83)).heap.size (((w.alloc (Obj.cells #[Value.bool true, v1] 83)).alloc (Obj.cells #[Value.bool false, v2] 83)).alloc (Obj.cells #[Value.bool false, Value.slice none 0 0] 83)) W → Calls Tryz.prog 85 #[.agg #[.bool true, v1], .agg #[.bool false, v2]] W fun e w' => e = .returned (.int .i64 0) ∧ Below W.heap.size W w') := fun W hW => by
    have h := amounts_any true false v1 v2 L1 L2 W (D1.out.below hW) (D2.out.below hW) n1 n2 l1
    rwa [hc, ordI_self] at h
  have HC : Hid (zOf true L1 + zOf false L2 = 0) := by unfold Hid zOf; simp; omega
  clear D1 D2
  go_enter Tryz.func65, Tryz.ntmps65
  go_wp2_with (go_at_call 85; refine (HA.out _ (Below.refl _ _)).mono ?_; rintro e w4 ⟨rfl, hbb⟩; have b1 := s1.below hbb; have b2 := s2.below hbb; have bR := s3.below hbb; have x0 := b1.cell 0; have y0 := b2.cell 0; have r0 := bR.cell 0; have r1 := bR.cell 1; have g0 := bR.frozen 0; have g1 := bR.frozen 1; simp only [List.getElem?_toArray, List.getElem?_cons_zero, List.getElem?_cons_succ] at x0 y0 r0 r1)
  have bF := (bR.set 0 (.bool false)).set 1 (.slice none 0 0)
  have d0 := bF.cell 0
  have d1 := bF.cell 1
  simp only [List.setIfInBounds_toArray, List.set_cons_zero, List.set_cons_succ, List.getElem?_toArray, List.getElem?_cons_zero, List.getElem?_cons_succ] at d0 d1
  refine bodyPost_ret (v := .agg #[.bool false, .slice none 0 0]) (by simp [results, Tryz.results65, go_sem, d0, d1]) rfl ⟨_, _, [], rfl, ⟨.inl ⟨rfl, rfl⟩, fun b off n c e => by cases e⟩, Norm.nil, by rw [HC.out]; rfl, (((hb3.trans (hbb.mono hb3.size)).setCell (by simp; omega) _).setCell (by simp; omega) _)⟩
set_option maxRecDepth 100000 in
set_option maxHeartbeats 4000000 in
theorem plus_gt_tf (v1 v2 : Value) (L1 L2 : List Int) (w : World) (h1 : DigV w v1 L1) (h2 : DigV w v2 L2) (n1 : Norm L1) (n2 : Norm L2) (l1 : L1.length ≤ 5000) (hc : valD L2 < valD L1) :
    Calls Tryz.prog 65 #[.agg #[.bool true, v1], .agg #[.bool false, v2]] w (BigPost (zOf true L1 + zOf false L2) w) := by
  have hb3 := (((Below.refl w.heap.size w).alloc (Nat.le_refl _) (Obj.cells #[Value.bool true, v1] 83)).alloc (by simp) (Obj.cells #[Value.bool false, v2] 83)).alloc (by simp; omega) (Obj.cells #[Value.bool false, Value.slice none 0 0] 83)
  have s1 := ((Blk.new w #[Value.bool true, v1] 83).alloc (Obj.cells #[Value.bool false, v2] 83)).alloc (Obj.cells #[Value.bool false, Value.slice none 0 0] 83)
  have s2 := (Blk.atB (w := w.alloc (Obj.cells #[Value.bool true, v1] 83)) (b := w.heap.size + 1) (cs := #[Value.bool false, v2]) (t := 83) (by simp)).alloc (Obj.cells #[Value.bool false, Value.slice none 0 0] 83)
  have s3 := Blk.atB (w := (w.alloc (Obj.cells #[Value.bool true, v1] 83)).alloc (Obj.cells #[Value.bool false, v2] 83)) (b := w.heap.size + 1 + 1) (cs := #[Value.bool false, Value.slice none 0 0]) (t := 83) (by simp)
  have hz3 : ((((w.alloc (Obj.cells #[Value.bool true, v1] 83)).alloc (Obj.cells #[Value.bool false, v2] 83)).alloc (Obj.cells #[Value.bool false, Value.slice none 0 0] 83))).heap.size = w.heap.size + 3 := by simp
  have D1 := Lib.hid (h1.below hb3)
  have D2 := Lib.hid (h2.below hb3)
  have HZ3 := Lib.hid hz3
  clear hz3 h1 h2
  have HA : Hid (∀ W, Below (((w.alloc (Obj.cells #[Value.bool true, v1] 83)).alloc (Obj.cells #[Value.bool false, v2] 83)).alloc (Obj.cells #[Value.bool false, Value.slice none 0 0] 83)).heap.size (((w.alloc (Obj.cells #[Value.bool true, v1] 83)).alloc (Obj.cells #[Value.bool false, v2] 83)).alloc (Obj.cells #[Value.bool false, Value.slice none 0 0] 83)) W → Calls Tryz.prog 85 #[.agg #[.bool true, v1], .agg #[.bool false, v2]] W fun e w' => e = .returned (.int .i64 1) ∧ Below W.heap.size W w') := fun W hW => by
    have h := amounts_any true false v1 v2 L1 L2 W (D1.out.below hW) (D2.out.below hW) n1 n2 l1
    have ho : ordI (valD L1) (valD L2) = 1 := by unfold ordI; rw [if_neg (by omega), if_pos hc]
    rwa [ho] at h
  have HT := Lib.hid (fun W (hW : Below (((w.alloc (Obj.cells #[Value.bool true, v1] 83)).alloc (Obj.cells #[Value.bool false, v2] 83)).alloc (Obj.cells #[Value.bool false, Value.slice none 0 0] 83)).heap.size (((w.alloc (Obj.cells #[Value.bool true, v1] 83)).alloc (Obj.cells #[Value.bool false, v2] 83)).alloc (Obj.cells #[Value.bool false, Value.slice none 0 0] 83)) W) => less_any true false v1 v2 L1 L2 W (D1.out.below hW) (D2.out.below hW) n1.1 n2.1 l1 (Norm.len_le n1.1 n2 (by omega)) (by omega))
  have HC : Hid (zOf true L1 + zOf false L2 = -(valD L1 - valD L2)) := by unfold Hid zOf; simp; omega
  clear D1 D2
  go_enter Tryz.func65, Tryz.ntmps65
  go_wp2_with fail
  refine (HA.out _ (Below.refl _ _)).mono ?_
  rintro e w4 ⟨rfl, hb4⟩
  have p1 := s1.below hb4
  have p2 := s2.below hb4
  have p10 := p1.cell 0
  have p11 := p1.cell 1
  have p20 := p2.cell 0
  have p21 := p2.cell 1
  simp only [List.getElem?_toArray, List.getElem?_cons_zero, List.getElem?_cons_succ] at p10 p11 p20 p21
  go_wp2_with fail
  refine (HA.out _ hb4).mono ?_
  rintro e w5 ⟨rfl, hb5⟩
  have hb5' := hb4.trans (hb5.mono hb4.size)
  have q1 := s1.below hb5'
  have q2 := s2.below hb5'
  have q10 := q1.cell 0
  have q11 := q1.cell 1
  have q20 := q2.cell 0
  have q21 := q2.cell 1
  simp only [List.getElem?_toArray, List.getElem?_cons_zero, List.getElem?_cons_succ] at q10 q11 q20 q21
  go_wp2_with (go_at_call 86; refine (HT.out _ hb5').mono ?_; rintro e w6 ⟨v', L, rfl, hd, hn, hv, hb6⟩; obtain ⟨A', c', rfl, _, _⟩ := DigV.open hd.1; have hbb := hb5'.trans (hb6.mono hb5'.size); have b1 := s1.below hbb; have b2 := s2.below hbb; have bR := s3.below hbb; have x0 := fun X => (b1.alloc X).cell 0; have y0 := fun X => (b2.alloc X).cell 0; have r0 := fun X => (bR.alloc X).cell 0; have r1 := fun X => (bR.alloc X).cell 1; have g0 := fun X => (bR.alloc X).frozen 0; have g1 := fun X => (bR.alloc X).frozen 1; simp only [List.getElem?_toArray, List.getElem?_cons_zero, List.getElem?_cons_succ] at x0 y0 r0 r1)
  have bF := ((bR.alloc (.cells #[.bool true, .slice A' L.length c'] 83)).set 0 (.bool true)).set 1 (.slice A' L.length c')
  have d0 := bF.cell 0
  have d1 := bF.cell 1
  simp only [List.setIfInBounds_toArray, List.set_cons_zero, List.set_cons_succ, List.getElem?_toArray, List.getElem?_cons_zero, List.getElem?_cons_succ] at d0 d1
  have hz4 := hbb.size
  have hz5 := hb5'.size
  rw [HZ3.out] at hz4 hz5
  refine bodyPost_ret (v := .agg #[.bool true, .slice A' L.length c']) (by simp [results, Tryz.results65, go_sem, d0, d1]) rfl ⟨_, _, L, rfl, ?_, hn, by rw [HC.out, ← hv]; rfl, ((((hb3.trans (hbb.mono hb3.size)).alloc (by omega) _).setCell (by simp; omega) _).setCell (by simp; omega) _)⟩
  exact (((hd.below ((Below.refl _ _).alloc (Nat.le_refl _) _)).set (by omega)).set (by omega)).more (by omega)
set_option maxRecDepth 100000 in
set_option maxHeartbeats 4000000 in
theorem plus_lt_tf (v1 v2 : Value) (L1 L2 : List Int) (w : World) (h1 : DigV w v1 L1) (h2 : DigV w v2 L2) (n1 : Norm L1) (n2 : Norm L2) (l1 : L1.length ≤ 5000) (l2 : L2.length ≤ 5000) (hc : valD L1 < valD L2) :
    Calls Tryz.prog 65 #[.agg #[.bool true, v1], .agg #[.bool false, v2]] w (BigPost (zOf true L1 + zOf false L2) w) := by
  have hb3 := (((Below.refl w.heap.size w).alloc (Nat.le_refl _) (Obj.cells #[Value.bool true, v1] 83)).alloc (by simp) (Obj.cells #[Value.bool false, v2] 83)).alloc (by simp; omega) (Obj.cells #[Value.bool false, Value.slice none 0 0] 83)
  have s1 := ((Blk.new w #[Value.bool true, v1] 83).alloc (Obj.cells #[Value.bool false, v2] 83)).alloc (Obj.cells #[Value.bool false, Value.slice none 0 0] 83)
  have s2 := (Blk.atB (w := w.alloc (Obj.cells #[Value.bool true, v1] 83)) (b := w.heap.size + 1) (cs := #[Value.bool false, v2]) (t := 83) (by simp)).alloc (Obj.cells #[Value.bool false, Value.slice none 0 0] 83)
  have s3 := Blk.atB (w := (w.alloc (Obj.cells #[Value.bool true, v1] 83)).alloc (Obj.cells #[Value.bool false, v2] 83)) (b := w.heap.size + 1 + 1) (cs := #[Value.bool false, Value.slice none 0 0]) (t := 83) (by simp)
  have hz3 : ((((w.alloc (Obj.cells #[Value.bool true, v1] 83)).alloc (Obj.cells #[Value.bool false, v2] 83)).alloc (Obj.cells #[Value.bool false, Value.slice none 0 0] 83))).heap.size = w.heap.size + 3 := by simp
  have D1 := Lib.hid (h1.below hb3)
  have D2 := Lib.hid (h2.below hb3)
  have HZ3 := Lib.hid hz3
  clear hz3 h1 h2
  have HA : Hid (∀ W, Below (((w.alloc (Obj.cells #[Value.bool true, v1] 83)).alloc (Obj.cells #[Value.bool false, v2] 83)).alloc (Obj.cells #[Value.bool false, Value.slice none 0 0] 83)).heap.size (((w.alloc (Obj.cells #[Value.bool true, v1] 83)).alloc (Obj.cells #[Value.bool false, v2] 83)).alloc (Obj.cells #[Value.bool false, Value.slice none 0 0] 83)) W → Calls Tryz.prog 85 #[.agg #[.bool true, v1], .agg #[.bool false, v2]] W fun e w' => e = .returned (.int .i64 (-1)) ∧ Below W.heap.size W w') := fun W hW => by
    have h := amounts_any true false v1 v2 L1 L2 W (D1.out.below hW) (D2.out.below hW) n1 n2 l1
    have ho : ordI (valD L1) (valD L2) = (-1) := by unfold ordI; rw [if_pos hc]
    rwa [ho] at h
  have HT := Lib.hid (fun W (hW : Below (((w.alloc (Obj.cells #[Value.bool true, v1] 83)).alloc (Obj.cells #[Value.bool false, v2] 83)).alloc (Obj.cells #[Value.bool false, Value.slice none 0 0] 83)).heap.size (((w.alloc (Obj.cells #[Value.bool true, v1] 83)).alloc (Obj.cells #[Value.bool false, v2] 83)).alloc (Obj.cells #[Value.bool false, Value.slice none 0 0] 83)) W) => less_any false true v2 v1 L2 L1 W (D2.out.below hW) (D1.out.below hW) n2.1 n1.1 l2 (Norm.len_le n2.1 n1 (by omega)) (by omega))
  have HC : Hid (zOf true L1 + zOf false L2 = (valD L2 - valD L1)) := by unfold Hid zOf; simp; omega
  clear D1 D2
  go_enter Tryz.func65, Tryz.ntmps65
  go_wp2_with fail
  refine (HA.out _ (Below.refl _ _)).mono ?_
  rintro e w4 ⟨rfl, hb4⟩
  have p1 := s1.below hb4
  have p2 := s2.below hb4
  have p10 := p1.cell 0
  have p11 := p1.cell 1
  have p20 := p2.cell 0
  have p21 := p2.cell 1
  simp only [List.getElem?_toArray, List.getElem?_cons_zero, List.getElem?_cons_succ] at p10 p11 p20 p21
  go_wp2_with fail
  refine (HA.out _ hb4).mono ?_
  rintro e w5 ⟨rfl, hb5⟩
  have hb5' := hb4.trans (hb5.mono hb4.size)
  have q1 := s1.below hb5'
  have q2 := s2.below hb5'
  have q10 := q1.cell 0
  have q11 := q1.cell 1
  have q20 := q2.cell 0
  have q21 := q2.cell 1
  simp only [List.getElem?_toArray, List.getElem?_cons_zero, List.getElem?_cons_succ] at q10 q11 q20 q21
  go_wp2_with (go_at_call 86; refine (HT.out _ hb5').mono ?_; rintro e w6 ⟨v', L, rfl, hd, hn, hv, hb6⟩; obtain ⟨A', c', rfl, _, _⟩ := DigV.open hd.1; have hbb := hb5'.trans (hb6.mono hb5'.size); have b1 := s1.below hbb; have b2 := s2.below hbb; have bR := s3.below hbb; have x0 := fun X => (b1.alloc X).cell 0; have y0 := fun X => (b2.alloc X).cell 0; have r0 := fun X => (bR.alloc X).cell 0; have r1 := fun X => (bR.alloc X).cell 1; have g0 := fun X => (bR.alloc X).frozen 0; have g1 := fun X => (bR.alloc X).frozen 1; simp only [List.getElem?_toArray, List.getElem?_cons_zero, List.getElem?_cons_succ] at x0 y0 r0 r1)
  have bF := ((bR.alloc (.cells #[.bool false, .slice A' L.length c'] 83)).set 0 (.bool false)).set 1 (.slice A' L.length c')
  have d0 := bF.cell 0
  have d1 := bF.cell 1
  simp only [List.setIfInBounds_toArray, List.set_cons_zero, List.set_cons_succ, List.getElem?_toArray, List.getElem?_cons_zero, List.getElem?_cons_succ] at d0 d1
  have hz4 := hbb.size
  have hz5 := hb5'.size
  rw [HZ3.out] at hz4 hz5
  refine bodyPost_ret (v := .agg #[.bool false, .slice A' L.length c']) (by simp [results, Tryz.results65, go_sem, d0, d1]) rfl ⟨_, _, L, rfl, ?_, hn, by rw [HC.out, ← hv]; rfl, ((((hb3.trans (hbb.mono hb3.size)).alloc (by omega) _).setCell (by simp; omega) _).setCell (by simp; omega) _)⟩
  exact (((hd.below ((Below.refl _ _).alloc (Nat.le_refl _) _)).set (by omega)).set (by omega)).more (by omega)
theorem bigPlus_any (m1 m2 : Bool) (v1 v2 : Value) (L1 L2 : List Int) (w : World) (h1 : DigV w v1 L1) (h2 : DigV w v2 L2) (n1 : Norm L1) (n2 : Norm L2) (l1 : L1.length ≤ 5000) (l2 : L2.length ≤ 5000) :
    Calls Tryz.prog 65 #[.agg #[.bool m1, v1], .agg #[.bool m2, v2]] w (BigPost (zOf m1 L1 + zOf m2 L2) w) := by
  rcases Int.lt_trichotomy (valD L1) (valD L2) with hc | hc | hc
  · cases m1 <;> cases m2
    · exact plus_same_f v1 v2 L1 L2 w h1 h2 n1 n2 l1 l2
    · exact plus_lt_ft v1 v2 L1 L2 w h1 h2 n1 n2 l1 l2 hc
    · exact plus_lt_tf v1 v2 L1 L2 w h1 h2 n1 n2 l1 l2 hc
    · exact plus_same_t v1 v2 L1 L2 w h1 h2 n1 n2 l1 l2
  · cases m1 <;> cases m2
    · exact plus_same_f v1 v2 L1 L2 w h1 h2 n1 n2 l1 l2
    · exact plus_eq_ft v1 v2 L1 L2 w h1 h2 n1 n2 l1 hc
    · exact plus_eq_tf v1 v2 L1 L2 w h1 h2 n1 n2 l1 hc
    · exact plus_same_t v1 v2 L1 L2 w h1 h2 n1 n2 l1 l2
  · cases m1 <;> cases m2
    · exact plus_same_f v1 v2 L1 L2 w h1 h2 n1 n2 l1 l2
    · exact plus_gt_ft v1 v2 L1 L2 w h1 h2 n1 n2 l1 hc
    · exact plus_gt_tf v1 v2 L1 L2 w h1 h2 n1 n2 l1 hc
    · exact plus_same_t v1 v2 L1 L2 w h1 h2 n1 n2 l1 l2

end Go.Proofs.YtlmjijiepnefdaaGreatDoor

/-
  The reference's whole numbers: whether one fits.
-/
namespace Go.Proofs.YtlmjijiepnefdaaGreatDoor
open Go.RowKit

theorem neg_back (V : Int) (h0 : 0 ≤ V) (h1 : V ≤ 9223372036854775808) : wrap64 (IntKind.u64.wrap (-V)) = -V := by
  simp only [IntKind.wrap, IntKind.bits, IntKind.signed]
  unfold wrap64
  simp
  omega
set_option maxRecDepth 100000 in
set_option maxHeartbeats 4000000 in
theorem fits_pos (v : Value) (L : List Int) (w : World) (h : DigV w v L) (hn : Norm L) (hl : L.length ≤ 5000) (hf : valD L ≤ 9223372036854775807) :
    Calls Tryz.prog 68 #[.agg #[.bool false, v]] w fun e w' => e = .returned (.tuple #[.int .i64 (zOf false L), .bool true]) ∧ Below w.heap.size w w' := by
  obtain ⟨A, c, rfl, hc, HA⟩ := DigV.open h
  have HD := Lib.hid h
  have HN := Lib.hid hn
  have HF := Lib.hid hf
  have hb0 := (Below.refl w.heap.size w).alloc (Nat.le_refl _) (Obj.cells #[Value.bool false, Value.slice A L.length c] 83)
  have s1 := Blk.new w #[Value.bool false, Value.slice A L.length c] 83
  clear h hn hf
  go_enter Tryz.func68, Tryz.ntmps68
  go_wp2_with fail
  refine (of_any 9223372036854775807 _ (by decide) (by decide)).mono ?_
  rintro e w1 ⟨v', L1, rfl, hd1, hn1, hv1, hb1⟩
  obtain ⟨A', c', rfl, _, _⟩ := DigV.open hd1.1
  have hbw1 := hb0.trans (hb1.mono hb0.size)
  have b1 := s1.below hb1
  have x0 := fun X => (b1.alloc X).cell 0
  have x1 := fun X => (b1.alloc X).cell 1
  simp only [List.getElem?_toArray, List.getElem?_cons_zero, List.getElem?_cons_succ] at x0 x1
  go_wp2_with fail
  have hM : valD L1 = 9223372036854775807 := by rw [hv1]; rfl
  have hbw2 := hbw1.alloc hbw1.size (Obj.cells #[Value.bool false, Value.slice A' L1.length c'] 83)
  have b2 := b1.alloc (Obj.cells #[Value.bool false, Value.slice A' L1.length c'] 83)
  have hdM := hd1.1.below ((Below.refl w1.heap.size w1).alloc (Nat.le_refl _) (Obj.cells #[Value.bool false, Value.slice A' L1.length c'] 83))
  have hq : ordI (valD L) (valD L1) ≤ 0 := by
    have := HF.out
    rcases ordI_cases (valD L) (valD L1) with h | h | h <;> omega
  have hbA := Lib.hid (amounts_any false false _ _ L L1 (w1.alloc (Obj.cells #[Value.bool false, Value.slice A' L1.length c'] 83)) (HD.out.below hbw2) hdM HN.out hn1 hl)
  revert hbA hq
  generalize ordI (valD L) (valD L1) = q
  intro hq hbA
  refine hbA.out.mono ?_
  rintro e w3 ⟨rfl, hb3⟩
  have hbw3 := hbw2.trans (hb3.mono hbw2.size)
  have b3 := b2.below hb3
  have y0 := b3.cell 0
  have y1 := b3.cell 1
  simp only [List.getElem?_toArray, List.getElem?_cons_zero, List.getElem?_cons_succ] at y0 y1
  clear hbA x0 x1 b2
  go_wp2_with fail
  go_loop [5, 6] (fun n i => ∃ k : Nat, k ≤ L.length ∧ n = .int .u64 (valD (L.drop k)) ∧ i = .int .i64 ((k : Int) - 1)) (fun _ i => (intOf i + 1).toNat)
  case atStart => exact ⟨L.length, Nat.le_refl _, by rw [List.drop_length]; rfl, rfl⟩
  case round =>
    obtain ⟨k, hk, rfl, hi⟩ := hrel
    cases k with
    | zero =>
      have hi' : u6 = .int .i64 (-1) := by rw [hi]; rfl
      subst hi'
      clear hi
      rw [List.drop_zero]
      have hv0 := (valD_bound HN.out.1).1
      have hv1 := HF.out
      go_wp2_with fail
      go_ret2
      exact ⟨rfl, hbw3⟩
    | succ i =>
      have hi' : u6 = .int .i64 (i : Int) := by rw [hi]; congr 1; omega
      subst hi'
      clear hi
      obtain ⟨q1, o1, rfl, hq1, hat1⟩ := HA.out.resolve_left (by rintro rfl; simp at hk)
      have e1 := (hbw3.cell (p := ⟨q1, o1 + i, none⟩) hq1).trans (hat1 i L[i] (List.getElem?_eq_getElem (by omega)))
      have hd := HN.out.1 L[i] (List.getElem_mem (by omega))
      have hs := valD_drop L i (by omega)
      have h1 := valD_drop_le HN.out.1 i (by omega)
      have h2 := (valD_bound (HN.out.1.drop (i + 1))).1
      have h3 := HF.out
      have HS := Lib.hid hs
      have hle : L[i] + 1000000 * valD (L.drop (i + 1)) ≤ 9223372036854775807 := by omega
      clear hat1 hs h1 h3
      revert e1 hd h2 HS hle
      generalize L[i] = x
      generalize valD (L.drop (i + 1)) = V
      intro e1 hd h2 HS hle
      go_wp2_with fail
      exact ⟨⟨i, by omega, by rw [HS.out]; congr 1; omega, by go_num⟩, by simp [intOf]⟩
set_option maxRecDepth 100000 in
set_option maxHeartbeats 4000000 in
theorem fits_over (v : Value) (L : List Int) (w : World) (h : DigV w v L) (hn : Norm L) (hl : L.length ≤ 5000) (hf : 9223372036854775807 < valD L) :
    Calls Tryz.prog 68 #[.agg #[.bool false, v]] w fun e w' => e = .returned (.tuple #[.int .i64 0, .bool false]) ∧ Below w.heap.size w w' := by
  obtain ⟨A, c, rfl, hc, HA⟩ := DigV.open h
  have HD := Lib.hid h
  have HN := Lib.hid hn
  have HF := Lib.hid hf
  have hb0 := (Below.refl w.heap.size w).alloc (Nat.le_refl _) (Obj.cells #[Value.bool false, Value.slice A L.length c] 83)
  have s1 := Blk.new w #[Value.bool false, Value.slice A L.length c] 83
  clear h hn hf
  go_enter Tryz.func68, Tryz.ntmps68
  go_wp2_with fail
  refine (of_any 9223372036854775807 _ (by decide) (by decide)).mono ?_
  rintro e w1 ⟨v', L1, rfl, hd1, hn1, hv1, hb1⟩
  obtain ⟨A', c', rfl, _, _⟩ := DigV.open hd1.1
  have hbw1 := hb0.trans (hb1.mono hb0.size)
  have b1 := s1.below hb1
  have x0 := fun X => (b1.alloc X).cell 0
  have x1 := fun X => (b1.alloc X).cell 1
  simp only [List.getElem?_toArray, List.getElem?_cons_zero, List.getElem?_cons_succ] at x0 x1
  go_wp2_with fail
  have hM : valD L1 = 9223372036854775807 := by rw [hv1]; rfl
  have hbw2 := hbw1.alloc hbw1.size (Obj.cells #[Value.bool false, Value.slice A' L1.length c'] 83)
  have b2 := b1.alloc (Obj.cells #[Value.bool false, Value.slice A' L1.length c'] 83)
  have hdM := hd1.1.below ((Below.refl w1.heap.size w1).alloc (Nat.le_refl _) (Obj.cells #[Value.bool false, Value.slice A' L1.length c'] 83))
  have hq : ordI (valD L) (valD L1) = 1 := by
    have := HF.out
    rcases ordI_cases (valD L) (valD L1) with h | h | h <;> omega
  have hbA := Lib.hid (amounts_any false false _ _ L L1 (w1.alloc (Obj.cells #[Value.bool false, Value.slice A' L1.length c'] 83)) (HD.out.below hbw2) hdM HN.out hn1 hl)
  revert hbA hq
  generalize ordI (valD L) (valD L1) = q
  intro hq hbA
  refine hbA.out.mono ?_
  rintro e w3 ⟨rfl, hb3⟩
  have hbw3 := hbw2.trans (hb3.mono hbw2.size)
  have b3 := b2.below hb3
  have y0 := b3.cell 0
  have y1 := b3.cell 1
  simp only [List.getElem?_toArray, List.getElem?_cons_zero, List.getElem?_cons_succ] at y0 y1
  clear hbA x0 x1 b2
  go_wp2_with fail
  go_ret2
  exact ⟨rfl, hbw3⟩
set_option maxRecDepth 100000 in
set_option maxHeartbeats 4000000 in
theorem fits_neg (v : Value) (L : List Int) (w : World) (h : DigV w v L) (hn : Norm L) (hl : L.length ≤ 5000) (hf : valD L ≤ 9223372036854775808) :
    Calls Tryz.prog 68 #[.agg #[.bool true, v]] w fun e w' => e = .returned (.tuple #[.int .i64 (zOf true L), .bool true]) ∧ Below w.heap.size w w' := by
  obtain ⟨A, c, rfl, hc, HA⟩ := DigV.open h
  have HD := Lib.hid h
  have HN := Lib.hid hn
  have HF := Lib.hid hf
  have hb0 := (Below.refl w.heap.size w).alloc (Nat.le_refl _) (Obj.cells #[Value.bool true, Value.slice A L.length c] 83)
  have s1 := Blk.new w #[Value.bool true, Value.slice A L.length c] 83
  clear h hn hf
  go_enter Tryz.func68, Tryz.ntmps68
  go_wp2_with fail
  refine (of_any 9223372036854775807 _ (by decide) (by decide)).mono ?_
  rintro e w1 ⟨v', L1, rfl, hd1, hn1, hv1, hb1⟩
  obtain ⟨A', c', rfl, _, _⟩ := DigV.open hd1.1
  have hbw1 := hb0.trans (hb1.mono hb0.size)
  have b1 := s1.below hb1
  have x0 := fun X => (b1.alloc X).cell 0
  have x1 := fun X => (b1.alloc X).cell 1
  simp only [List.getElem?_toArray, List.getElem?_cons_zero, List.getElem?_cons_succ] at x0 x1
  go_wp2_with fail
  have bM := Blk.new w1 #[Value.bool false, Value.slice A' L1.length c'] 83
  have hl1 : L1.length ≤ 5000 := by have := hn1.len4 (by rw [hv1]; decide); omega
  go_region_with (first | (go_at_call 67; refine (of_any 1 _ (by decide) (by decide)).mono ?_; rintro e w2 ⟨v2', L2, rfl, hd2, hn2, hv2, hb2⟩; obtain ⟨A2, c2, rfl, hq2, hQ2⟩ := DigV.open hd2.1; clear hq2 hQ2; have bM2 := bM.drew.below hb2; have t0 := bM2.cell 0; have t1 := bM2.cell 1; simp only [List.getElem?_toArray, List.getElem?_cons_zero, List.getElem?_cons_succ] at t0 t1; have hl2 : L2.length ≤ 5000 := by have := hn2.len4 (by rw [hv2]; decide); omega) | (go_at_call 84; refine (added_any false false _ _ L1 L2 _ (hd1.1.below (((Below.refl _ _).alloc (Nat.le_refl _) _).drew.trans (hb2.mono (by simp)))) hd2.1 hn1 hn2 hl1 hl2).mono ?_; rintro e w3 ⟨v3, L3, rfl, hd3, hn3, hv3, hb3⟩; obtain ⟨A3, c3, rfl, hq3, hQ3⟩ := DigV.open hd3.1; clear hq3 hQ3; have bM3 := bM2.below hb3; have z0 := bM3.cell 0; have z1 := bM3.cell 1; have f0 := bM3.frozen 0; have f1 := bM3.frozen 1; simp only [List.getElem?_toArray, List.getElem?_cons_zero, List.getElem?_cons_succ] at z0 z1))
  all_goals
    first | (rename_i K0 hK0 _; change K0 _ _; refine hK0 _ _ ?_) | (rename_i K0 hK0; change K0 _ _; refine hK0 _ _ ?_)
    have hw12 := (hbw1.alloc hbw1.size (Obj.cells #[Value.bool false, Value.slice A' L1.length c'] 83)).drew
    have hw13 := hw12.trans (hb2.mono hw12.size)
    have hw14 := hw13.trans (hb3.mono hw13.size)
    have hz12 := hb2.size
    have hz12' : w1.heap.size + 1 ≤ w2.heap.size := by simpa using hz12
    have hbw2 := (hw14.setCell (p := ⟨w1.heap.size, 0, none⟩) hbw1.size (.bool false)).setCell (p := ⟨w1.heap.size, 1, none⟩) hbw1.size (.slice A3 L3.length c3)
    have b2 := ((((b1.alloc (Obj.cells #[Value.bool false, Value.slice A' L1.length c'] 83)).drew.below hb2).below hb3).setOther (b' := w1.heap.size) (by have := b1.lt; omega) 0 (.bool false)).setOther (b' := w1.heap.size) (by have := b1.lt; omega) 1 (.slice A3 L3.length c3)
    have hdM : DigV _ (.slice A3 L3.length c3) L3 := ((hd3.set (b := w1.heap.size) (j := 0) (u := .bool false) (by omega)).set (b := w1.heap.size) (j := 1) (u := .slice A3 L3.length c3) (by omega)).1
    have hM : valD L3 = 9223372036854775808 := by rw [hv3, hv1, hv2]; rfl
    have bW := (bM3.set 0 (.bool false)).set 1 (.slice A3 L3.length c3)
    clear hd1 hn1 hv1 hd2 hn2 hv2 hd3 hv3 hb2 hb3 bM bM2 bM3 hw12 hw13 hw14 hz12 hz12' hl1 hl2 x0 x1 b1 z0 z1 f0 f1 t0 t1
    revert hbw2 b2 hdM bW
    generalize ((w3.setCell ⟨w1.heap.size, 0, none⟩ (.bool false)).setCell ⟨w1.heap.size, 1, none⟩ (.slice A3 L3.length c3)) = wB
    intro hbw2 b2 hdM bW
    have x0 := b2.cell 0
    have x1 := b2.cell 1
    have m0 := bW.cell 0
    have m1 := bW.cell 1
    simp only [List.setIfInBounds_toArray, List.set_cons_zero, List.set_cons_succ, List.getElem?_toArray, List.getElem?_cons_zero, List.getElem?_cons_succ] at x0 x1 m0 m1
    go_wp2_with fail
    have hq : ordI (valD L) (valD L3) ≤ 0 := by
      have := HF.out
      rcases ordI_cases (valD L) (valD L3) with h | h | h <;> omega
    have hbA := Lib.hid (amounts_any true false _ _ L L3 wB (HD.out.below hbw2) hdM HN.out hn3 hl)
    revert hbA hq
    generalize ordI (valD L) (valD L3) = q
    intro hq hbA
    refine hbA.out.mono ?_
    rintro e w3 ⟨rfl, hb3⟩
    have hbw3 := hbw2.trans (hb3.mono hbw2.size)
    have b3 := b2.below hb3
    have y0 := b3.cell 0
    have y1 := b3.cell 1
    simp only [List.getElem?_toArray, List.getElem?_cons_zero, List.getElem?_cons_succ] at y0 y1
    clear hbA x0 x1 b2
    go_wp2_with fail
    go_loop [5, 6] (fun n i => ∃ k : Nat, k ≤ L.length ∧ n = .int .u64 (valD (L.drop k)) ∧ i = .int .i64 ((k : Int) - 1)) (fun _ i => (intOf i + 1).toNat)
    case atStart => exact ⟨L.length, Nat.le_refl _, by rw [List.drop_length]; rfl, rfl⟩
    case round =>
      obtain ⟨k, hk, rfl, hi⟩ := hrel
      cases k with
      | zero =>
        have hi' : u6 = .int .i64 (-1) := by rw [hi]; rfl
        subst hi'
        clear hi
        rw [List.drop_zero]
        have hv0 := (valD_bound HN.out.1).1
        have hv1 := HF.out
        go_wp2_with fail
        go_ret2
        exact ⟨congrArg (fun z => Ending.returned (.tuple #[.int .i64 z, .bool true])) (neg_back (valD L) hv0 hv1), hbw3⟩
      | succ i =>
        have hi' : u6 = .int .i64 (i : Int) := by rw [hi]; congr 1; omega
        subst hi'
        clear hi
        obtain ⟨q1, o1, rfl, hq1, hat1⟩ := HA.out.resolve_left (by rintro rfl; simp at hk)
        have e1 := (hbw3.cell (p := ⟨q1, o1 + i, none⟩) hq1).trans (hat1 i L[i] (List.getElem?_eq_getElem (by omega)))
        have hd := HN.out.1 L[i] (List.getElem_mem (by omega))
        have hs := valD_drop L i (by omega)
        have h1 := valD_drop_le HN.out.1 i (by omega)
        have h2 := (valD_bound (HN.out.1.drop (i + 1))).1
        have h3 := HF.out
        have HS := Lib.hid hs
        have hle : L[i] + 1000000 * valD (L.drop (i + 1)) ≤ 9223372036854775808 := by omega
        clear hat1 hs h1 h3
        revert e1 hd h2 HS hle
        generalize L[i] = x
        generalize valD (L.drop (i + 1)) = V
        intro e1 hd h2 HS hle
        go_wp2_with fail
        exact ⟨⟨i, by omega, by rw [HS.out]; congr 1; omega, by go_num⟩, by simp [intOf]⟩
set_option maxRecDepth 100000 in
set_option maxHeartbeats 4000000 in
theorem fits_under (v : Value) (L : List Int) (w : World) (h : DigV w v L) (hn : Norm L) (hl : L.length ≤ 5000) (hf : 9223372036854775808 < valD L) :
    Calls Tryz.prog 68 #[.agg #[.bool true, v]] w fun e w' => e = .returned (.tuple #[.int .i64 0, .bool false]) ∧ Below w.heap.size w w' := by
  obtain ⟨A, c, rfl, hc, HA⟩ := DigV.open h
  have HD := Lib.hid h
  have HN := Lib.hid hn
  have HF := Lib.hid hf
  have hb0 := (Below.refl w.heap.size w).alloc (Nat.le_refl _) (Obj.cells #[Value.bool true, Value.slice A L.length c] 83)
  have s1 := Blk.new w #[Value.bool true, Value.slice A L.length c] 83
  clear h hn hf
  go_enter Tryz.func68, Tryz.ntmps68
  go_wp2_with fail
  refine (of_any 9223372036854775807 _ (by decide) (by decide)).mono ?_
  rintro e w1 ⟨v', L1, rfl, hd1, hn1, hv1, hb1⟩
  obtain ⟨A', c', rfl, _, _⟩ := DigV.open hd1.1
  have hbw1 := hb0.trans (hb1.mono hb0.size)
  have b1 := s1.below hb1
  have x0 := fun X => (b1.alloc X).cell 0
  have x1 := fun X => (b1.alloc X).cell 1
  simp only [List.getElem?_toArray, List.getElem?_cons_zero, List.getElem?_cons_succ] at x0 x1
  go_wp2_with fail
  have bM := Blk.new w1 #[Value.bool false, Value.slice A' L1.length c'] 83
  have hl1 : L1.length ≤ 5000 := by have := hn1.len4 (by rw [hv1]; decide); omega
  go_region_with (first | (go_at_call 67; refine (of_any 1 _ (by decide) (by decide)).mono ?_; rintro e w2 ⟨v2', L2, rfl, hd2, hn2, hv2, hb2⟩; obtain ⟨A2, c2, rfl, hq2, hQ2⟩ := DigV.open hd2.1; clear hq2 hQ2; have bM2 := bM.drew.below hb2; have t0 := bM2.cell 0; have t1 := bM2.cell 1; simp only [List.getElem?_toArray, List.getElem?_cons_zero, List.getElem?_cons_succ] at t0 t1; have hl2 : L2.length ≤ 5000 := by have := hn2.len4 (by rw [hv2]; decide); omega) | (go_at_call 84; refine (added_any false false _ _ L1 L2 _ (hd1.1.below (((Below.refl _ _).alloc (Nat.le_refl _) _).drew.trans (hb2.mono (by simp)))) hd2.1 hn1 hn2 hl1 hl2).mono ?_; rintro e w3 ⟨v3, L3, rfl, hd3, hn3, hv3, hb3⟩; obtain ⟨A3, c3, rfl, hq3, hQ3⟩ := DigV.open hd3.1; clear hq3 hQ3; have bM3 := bM2.below hb3; have z0 := bM3.cell 0; have z1 := bM3.cell 1; have f0 := bM3.frozen 0; have f1 := bM3.frozen 1; simp only [List.getElem?_toArray, List.getElem?_cons_zero, List.getElem?_cons_succ] at z0 z1))
  all_goals
    first | (rename_i K0 hK0 _; change K0 _ _; refine hK0 _ _ ?_) | (rename_i K0 hK0; change K0 _ _; refine hK0 _ _ ?_)
    have hw12 := (hbw1.alloc hbw1.size (Obj.cells #[Value.bool false, Value.slice A' L1.length c'] 83)).drew
    have hw13 := hw12.trans (hb2.mono hw12.size)
    have hw14 := hw13.trans (hb3.mono hw13.size)
    have hz12 := hb2.size
    have hz12' : w1.heap.size + 1 ≤ w2.heap.size := by simpa using hz12
    have hbw2 := (hw14.setCell (p := ⟨w1.heap.size, 0, none⟩) hbw1.size (.bool false)).setCell (p := ⟨w1.heap.size, 1, none⟩) hbw1.size (.slice A3 L3.length c3)
    have b2 := ((((b1.alloc (Obj.cells #[Value.bool false, Value.slice A' L1.length c'] 83)).drew.below hb2).below hb3).setOther (b' := w1.heap.size) (by have := b1.lt; omega) 0 (.bool false)).setOther (b' := w1.heap.size) (by have := b1.lt; omega) 1 (.slice A3 L3.length c3)
    have hdM : DigV _ (.slice A3 L3.length c3) L3 := ((hd3.set (b := w1.heap.size) (j := 0) (u := .bool false) (by omega)).set (b := w1.heap.size) (j := 1) (u := .slice A3 L3.length c3) (by omega)).1
    have hM : valD L3 = 9223372036854775808 := by rw [hv3, hv1, hv2]; rfl
    have bW := (bM3.set 0 (.bool false)).set 1 (.slice A3 L3.length c3)
    clear hd1 hn1 hv1 hd2 hn2 hv2 hd3 hv3 hb2 hb3 bM bM2 bM3 hw12 hw13 hw14 hz12 hz12' hl1 hl2 x0 x1 b1 z0 z1 f0 f1 t0 t1
    revert hbw2 b2 hdM bW
    generalize ((w3.setCell ⟨w1.heap.size, 0, none⟩ (.bool false)).setCell ⟨w1.heap.size, 1, none⟩ (.slice A3 L3.length c3)) = wB
    intro hbw2 b2 hdM bW
    have x0 := b2.cell 0
    have x1 := b2.cell 1
    have m0 := bW.cell 0
    have m1 := bW.cell 1
    simp only [List.setIfInBounds_toArray, List.set_cons_zero, List.set_cons_succ, List.getElem?_toArray, List.getElem?_cons_zero, List.getElem?_cons_succ] at x0 x1 m0 m1
    go_wp2_with fail
    have hq : ordI (valD L) (valD L3) = 1 := by
      have := HF.out
      rcases ordI_cases (valD L) (valD L3) with h | h | h <;> omega
    have hbA := Lib.hid (amounts_any true false _ _ L L3 wB (HD.out.below hbw2) hdM HN.out hn3 hl)
    revert hbA hq
    generalize ordI (valD L) (valD L3) = q
    intro hq hbA
    refine hbA.out.mono ?_
    rintro e w3 ⟨rfl, hb3⟩
    have hbw3 := hbw2.trans (hb3.mono hbw2.size)
    have b3 := b2.below hb3
    have y0 := b3.cell 0
    have y1 := b3.cell 1
    simp only [List.getElem?_toArray, List.getElem?_cons_zero, List.getElem?_cons_succ] at y0 y1
    clear hbA x0 x1 b2
    go_wp2_with fail
    go_ret2
    exact ⟨rfl, hbw3⟩
/-- Fits: the number, if it has room. -/
def fitsB (a : Int) : Bool := decide (-9223372036854775808 ≤ a ∧ a ≤ 9223372036854775807)
def FitPost (z : Int) (w : World) (e : Ending) (w' : World) : Prop := e = .returned (.tuple #[.int .i64 (if fitsB z then z else 0), .bool (fitsB z)]) ∧ Below w.heap.size w w'
theorem fits_any (m : Bool) (v : Value) (L : List Int) (w : World) (h : DigV w v L) (hn : Norm L) (hl : L.length ≤ 5000) :
    Calls Tryz.prog 68 #[.agg #[.bool m, v]] w (FitPost (zOf m L) w) := by
  have hv := (valD_bound hn.1).1
  cases m
  · by_cases hf : valD L ≤ 9223372036854775807
    · have e : fitsB (zOf false L) = true := by unfold fitsB zOf; simp; omega
      unfold FitPost
      rw [e, if_pos rfl]
      exact fits_pos v L w h hn hl hf
    · have e : fitsB (zOf false L) = false := by unfold fitsB zOf; simp; omega
      unfold FitPost
      rw [e, if_neg (by decide)]
      exact fits_over v L w h hn hl (by omega)
  · by_cases hf : valD L ≤ 9223372036854775808
    · have e : fitsB (zOf true L) = true := by unfold fitsB zOf; simp; omega
      unfold FitPost
      rw [e, if_pos rfl]
      exact fits_neg v L w h hn hl hf
    · have e : fitsB (zOf true L) = false := by unfold fitsB zOf; simp; omega
      unfold FitPost
      rw [e, if_neg (by decide)]
      exact fits_under v L w h hn hl (by omega)

end Go.Proofs.YtlmjijiepnefdaaGreatDoor
