/-
  The reference's whole numbers: which amount is greater.
-/
import Derived.Test.YtippffjhkinfoaaGreatDoorBig3
namespace Go.Proofs.YtippffjhkinfoaaGreatDoor
open Go.RowKit

set_option maxRecDepth 100000 in
set_option maxHeartbeats 4000000 in
theorem amounts_any (m1 m2 : Bool) (v1 v2 : Value) (L1 L2 : List Int) (w : World) (h1 : DigV w v1 L1) (h2 : DigV w v2 L2) (n1 : Norm L1) (n2 : Norm L2) (l1 : L1.length ≤ 5000) :
    Calls Tryz.prog 66 #[.agg #[.bool m1, v1], .agg #[.bool m2, v2]] w fun e w' => e = .returned (.int .i64 (ordI (valD L1) (valD L2))) ∧ Below w.heap.size w w' := by
  obtain ⟨A1, c1, rfl, hc1, HA1⟩ := DigV.open h1
  obtain ⟨A2, c2, rfl, hc2, HA2⟩ := DigV.open h2
  have N1 := Lib.hid n1
  have N2 := Lib.hid n2
  clear h1 h2 n1 n2
  by_cases hl : L1.length = L2.length
  · have HL := Lib.hid hl
    obtain ⟨n, g1⟩ : ∃ n, n = L1.length := ⟨_, rfl⟩
    have g2 : L2.length = n := by rw [g1, hl]
    rw [← g1, g2]
    have G1 := Lib.hid g1
    have G2 := Lib.hid g2
    have hn1 : n ≤ c1 := by omega
    have hn2 : n ≤ c2 := by omega
    have hn : n ≤ 5000 := by omega
    clear hl g1 g2 l1 hc1 hc2
    have hb2 := ((Below.refl w.heap.size w).alloc (Nat.le_refl _) (Obj.cells #[Value.bool m1, Value.slice A1 n c1] 73)).alloc (by simp) (Obj.cells #[Value.bool m2, Value.slice A2 n c2] 73)
    have s1 := (Blk.new w #[Value.bool m1, Value.slice A1 n c1] 73).alloc (Obj.cells #[Value.bool m2, Value.slice A2 n c2] 73)
    have s2 := (Blk.atB (w := w.alloc (Obj.cells #[Value.bool m1, Value.slice A1 n c1] 73)) (b := w.heap.size + 1) (cs := #[Value.bool m2, Value.slice A2 n c2]) (t := 73) (by simp))
    go_enter Tryz.func66, Tryz.ntmps66
    go_wp2_with fail
    go_loopw [5] (fun i wr => ∃ k : Nat, k ≤ n ∧ i = .int .i64 ((k : Int) - 1) ∧ Hid (L1.drop k = L2.drop k) ∧ Below w.heap.size w wr ∧ Blk wr w.heap.size #[Value.bool m1, Value.slice A1 n c1] 73 ∧ Blk wr (w.heap.size + 1) #[Value.bool m2, Value.slice A2 n c2] 73) (fun i _ => (intOf i + 1).toNat)
    case atStart => exact ⟨n, Nat.le_refl _, rfl, by unfold Hid; rw [List.drop_of_length_le (by rw [G1.out]; omega), List.drop_of_length_le (by rw [G2.out]; omega)], hb2, s1, s2⟩
    case round =>
      clear s1 s2 hb2
      obtain ⟨k, hk, hi, HD, hb2, b1, b2⟩ := hrel
      have x0 := b1.cell 0
      have x1 := b1.cell 1
      have y0 := b2.cell 0
      have y1 := b2.cell 1
      simp only [List.getElem?_toArray, List.getElem?_cons_zero, List.getElem?_cons_succ] at x0 x1 y0 y1
      cases k with
      | zero =>
        have hi' : u5 = .int .i64 (-1) := by rw [hi]; rfl
        subst hi'
        have HE : Hid (ordI (valD L1) (valD L2) = 0) := by
          unfold Hid
          have h := HD.out
          rw [List.drop_zero, List.drop_zero] at h
          rw [h, ordI_self]
        go_wp2_with fail
        go_ret
        exact ⟨by rw [HE.out]; rfl, hb2⟩
      | succ i =>
        have hi' : u5 = .int .i64 (i : Int) := by rw [hi]; congr 1; omega
        subst hi'
        clear hi
        have hk1 : i < L1.length := by rw [← G1.out]; omega
        have hk2 : i < L2.length := by rw [G2.out]; omega
        obtain ⟨q1, o1, rfl, hq1, hat1⟩ := HA1.out.resolve_left (by rintro rfl; simp at hk1)
        obtain ⟨q2, o2, rfl, hq2, hat2⟩ := HA2.out.resolve_left (by rintro rfl; simp at hk2)
        have e1 := (hb2.cell (p := ⟨q1, o1 + i, none⟩) hq1).trans (hat1 i L1[i] (List.getElem?_eq_getElem (by omega)))
        have e2 := (hb2.cell (p := ⟨q2, o2 + i, none⟩) hq2).trans (hat2 i L2[i] (List.getElem?_eq_getElem hk2))
        have HLT : Hid (L1[i] < L2[i] → valD L1 < valD L2) := fun h => valD_digit N1.out.1 N2.out.1 HL.out i hk1 HD.out h
        have HGT : Hid (L2[i] < L1[i] → valD L2 < valD L1) := fun h => valD_digit N2.out.1 N1.out.1 HL.out.symm i hk2 HD.out.symm h
        have HEQ : Hid (L1[i] = L2[i] → L1.drop i = L2.drop i) := fun h => by
          rw [List.drop_eq_getElem_cons (show i < L1.length by omega), List.drop_eq_getElem_cons hk2, h, HD.out]
        clear hat1 hat2 HD
        revert e1 e2 HLT HGT HEQ
        generalize L1[i] = x
        generalize L2[i] = y
        intro e1 e2 HLT HGT HEQ
        clear hk1 hk2
        by_cases c1' : x < y
        · have HE : Hid (ordI (valD L1) (valD L2) = -1) := by unfold Hid ordI; rw [if_pos (HLT.out c1')]
          clear HLT HGT HEQ
          go_wp2_with fail
          go_region
          first | (rename_i K0 hK0 _; change K0 _ _; refine hK0 _ _ ?_) | (rename_i K0 hK0; change K0 _ _; refine hK0 _ _ ?_)
          go_wp2_with fail
          go_ret
          exact ⟨by rw [HE.out]; rfl, hb2.drew⟩
        · by_cases c2' : y < x
          · have HE : Hid (ordI (valD L1) (valD L2) = 1) := by
              unfold Hid ordI
              have h := HGT.out c2'
              rw [if_neg (by omega), if_pos h]
            clear HLT HGT HEQ
            go_wp2_with fail
            go_region
            first | (rename_i K0 hK0 _; change K0 _ _; refine hK0 _ _ ?_) | (rename_i K0 hK0; change K0 _ _; refine hK0 _ _ ?_)
            go_wp2_with fail
            go_region
            first | (rename_i K1 hK1 _; change K1 _ _; refine hK1 _ _ ?_) | (rename_i K1 hK1; change K1 _ _; refine hK1 _ _ ?_)
            go_wp2_with fail
            go_ret
            exact ⟨by rw [HE.out]; rfl, hb2.drew.drew⟩
          · have HN := Lib.hid (HEQ.out (by omega))
            clear HLT HGT HEQ
            go_wp2_with fail
            go_region
            first | (rename_i K0 hK0 _; change K0 _ _; refine hK0 _ _ ?_) | (rename_i K0 hK0; change K0 _ _; refine hK0 _ _ ?_)
            go_wp2_with fail
            go_region
            first | (rename_i K1 hK1 _; change K1 _ _; refine hK1 _ _ ?_) | (rename_i K1 hK1; change K1 _ _; refine hK1 _ _ ?_)
            go_wp2_with fail
            exact ⟨⟨i, by omega, by go_num, HN, hb2.drew.drew, b1, b2⟩, by simp [intOf]⟩
  · have hl' : ((L1.length : Int) == (L2.length : Int)) = false := by simp; omega
    have hb2 := ((Below.refl w.heap.size w).alloc (Nat.le_refl _) (Obj.cells #[Value.bool m1, Value.slice A1 L1.length c1] 73)).alloc (by simp) (Obj.cells #[Value.bool m2, Value.slice A2 L2.length c2] 73)
    by_cases hlt : L1.length < L2.length
    · have HE : Hid (ordI (valD L1) (valD L2) = -1) := by unfold Hid ordI; rw [if_pos (N1.out.len_lt N2.out hlt)]
      go_enter Tryz.func66, Tryz.ntmps66
      go_wp2_with fail
      go_ret
      exact ⟨by rw [HE.out]; rfl, hb2⟩
    · have HE : Hid (ordI (valD L1) (valD L2) = 1) := by
        unfold Hid ordI
        have h := N2.out.len_lt N1.out (by omega)
        rw [if_neg (by omega), if_pos h]
      go_enter Tryz.func66, Tryz.ntmps66
      go_wp2_with fail
      go_ret
      exact ⟨by rw [HE.out]; rfl, hb2⟩

set_option maxRecDepth 100000 in
set_option maxHeartbeats 4000000 in
theorem minus_any (m : Bool) (v : Value) (L : List Int) (w : World) (h : DigV w v L) :
    Calls Tryz.prog 49 #[.agg #[.bool m, v]] w fun e w' => e = .returned (.agg #[.bool (!m && decide (0 < L.length)), v]) ∧ Below w.heap.size w w' := by
  obtain ⟨A1, c1, rfl, hc1, HA1⟩ := DigV.open h
  clear h
  have hb2 := ((Below.refl w.heap.size w).alloc (Nat.le_refl _) (Obj.cells #[Value.bool m, Value.slice A1 L.length c1] 73)).alloc (by simp) (Obj.cells #[Value.bool false, Value.slice none 0 0] 73)
  by_cases hp : 0 < L.length
  · have hd : decide (0 < L.length) = true := decide_eq_true hp
    rw [hd]
    cases m
    · go_enter Tryz.func49, Tryz.ntmps49
      go_wp2_with fail
      have bF := Blk.atB (w := w.alloc (Obj.cells #[Value.bool false, Value.slice A1 L.length c1] 73)) (b := w.heap.size + 1) (cs := #[Value.bool true, Value.slice A1 L.length c1]) (t := 73) (by simp)
      have d0 := bF.cell 0
      have d1 := bF.cell 1
      simp only [List.getElem?_toArray, List.getElem?_cons_zero, List.getElem?_cons_succ] at d0 d1
      refine bodyPost_ret (v := .agg #[.bool true, .slice A1 L.length c1]) (by simp [results, Tryz.results49, go_sem, d0, d1]) rfl ⟨rfl, ((Below.refl w.heap.size w).alloc (Nat.le_refl _) _).alloc (by simp) _⟩
    · go_enter Tryz.func49, Tryz.ntmps49
      go_wp2_with fail
      have bF := Blk.atB (w := w.alloc (Obj.cells #[Value.bool true, Value.slice A1 L.length c1] 73)) (b := w.heap.size + 1) (cs := #[Value.bool false, Value.slice A1 L.length c1]) (t := 73) (by simp)
      have d0 := bF.cell 0
      have d1 := bF.cell 1
      simp only [List.getElem?_toArray, List.getElem?_cons_zero, List.getElem?_cons_succ] at d0 d1
      refine bodyPost_ret (v := .agg #[.bool false, .slice A1 L.length c1]) (by simp [results, Tryz.results49, go_sem, d0, d1]) rfl ⟨rfl, ((Below.refl w.heap.size w).alloc (Nat.le_refl _) _).alloc (by simp) _⟩
  · have hd : decide (0 < L.length) = false := decide_eq_false hp
    rw [hd]
    cases m
    · go_enter Tryz.func49, Tryz.ntmps49
      go_wp2_with fail
      have bF := Blk.atB (w := w.alloc (Obj.cells #[Value.bool false, Value.slice A1 L.length c1] 73)) (b := w.heap.size + 1) (cs := #[Value.bool false, Value.slice A1 L.length c1]) (t := 73) (by simp)
      have d0 := bF.cell 0
      have d1 := bF.cell 1
      simp only [List.getElem?_toArray, List.getElem?_cons_zero, List.getElem?_cons_succ] at d0 d1
      refine bodyPost_ret (v := .agg #[.bool false, .slice A1 L.length c1]) (by simp [results, Tryz.results49, go_sem, d0, d1]) rfl ⟨rfl, ((Below.refl w.heap.size w).alloc (Nat.le_refl _) _).alloc (by simp) _⟩
    · go_enter Tryz.func49, Tryz.ntmps49
      go_wp2_with fail
      have bF := Blk.atB (w := w.alloc (Obj.cells #[Value.bool true, Value.slice A1 L.length c1] 73)) (b := w.heap.size + 1) (cs := #[Value.bool false, Value.slice A1 L.length c1]) (t := 73) (by simp)
      have d0 := bF.cell 0
      have d1 := bF.cell 1
      simp only [List.getElem?_toArray, List.getElem?_cons_zero, List.getElem?_cons_succ] at d0 d1
      refine bodyPost_ret (v := .agg #[.bool false, .slice A1 L.length c1]) (by simp [results, Tryz.results49, go_sem, d0, d1]) rfl ⟨rfl, ((Below.refl w.heap.size w).alloc (Nat.le_refl _) _).alloc (by simp) _⟩

end Go.Proofs.YtippffjhkinfoaaGreatDoor
