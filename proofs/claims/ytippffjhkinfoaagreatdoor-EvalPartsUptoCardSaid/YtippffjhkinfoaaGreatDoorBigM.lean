/-
  The reference's whole numbers: products.
-/
import Derived.Test.YtippffjhkinfoaaGreatDoorBig2
import Derived.Test.YtippffjhkinfoaaGreatDoorBigT
import Derived.Laws.OwnMore
namespace Go.Proofs.YtippffjhkinfoaaGreatDoor
open Go.RowKit

theorem encDig_flat : ∀ L : List Int, L.flatMap encDig = L.map (Value.int .u64)
  | [] => rfl
  | d :: t => by rw [List.flatMap_cons, encDig_flat t]; rfl
theorem OwnDig.num {w : World} {base g cap n : Nat} {L : List Int} (h : OwnDig w base (.slice (some ⟨g, 0, none⟩) n cap) L) : n = L.length := by
  rcases OwnG.shape h with ⟨h1, _⟩ | ⟨g', cap', h1, _⟩
  · cases h1
  · injection h1
theorem OwnDig.put {w : World} {base g cap n : Nat} {L : List Int} (h : OwnDig w base (.slice (some ⟨g, 0, none⟩) n cap) L) (k : Nat) (d : Int) : OwnDig (w.setCell ⟨g, k, none⟩ (.int .u64 d)) base (.slice (some ⟨g, 0, none⟩) n cap) (L.set k d) := by
  obtain rfl := h.num
  have h1 := (World.ownsRow.stored h k (.int .u64 d)).1
  unfold OwnDig OwnG
  rw [List.length_set, encDig_flat, List.map_set, ← encDig_flat]
  exact h1
theorem OwnDig.cellAt {w : World} {base g cap n : Nat} {L : List Int} (h : OwnDig w base (.slice (some ⟨g, 0, none⟩) n cap) L) (k : Nat) (hk : k < L.length) : w.cell? ⟨g, k, none⟩ = some (.int .u64 L[k]) := by
  obtain rfl := h.num
  have h1 := World.ownsRow.cellAt h k (by omega)
  rw [h1, encDig_flat, List.getElem?_map, List.getElem?_eq_getElem hk]
  rfl
theorem OwnDig.frozenAt {w : World} {base g cap n : Nat} {L : List Int} (h : OwnDig w base (.slice (some ⟨g, 0, none⟩) n cap) L) (k : Nat) : w.frozen? ⟨g, k, none⟩ = false := by
  obtain rfl := h.num
  exact World.ownsRow.frozenAt h k
theorem OwnDig.some {w : World} {base : Nat} {v : Value} {L : List Int} (h : OwnDig w base v L) (hL : 0 < L.length) : ∃ g cap, v = .slice (some ⟨g, 0, none⟩) L.length cap ∧ base ≤ g ∧ g < w.heap.size ∧ L.length ≤ cap ∧ ∀ j, w.frozen? ⟨g, j, none⟩ = false := by
  rcases OwnG.shape h with ⟨_, rfl⟩ | ⟨g, cap, hv, hb, hg, hc, _, hf, _⟩
  · simp at hL
  · exact ⟨g, cap, hv, hb, hg, hc, hf⟩

/-- The four boxes of a product. -/
def TimW (w wr : World) (m1 m2 : Bool) (v1 v2 sl : Value) : Prop := Below w.heap.size w wr ∧ Blk wr w.heap.size #[.bool m1, v1] 73 ∧ Blk wr (w.heap.size + 1) #[.bool m2, v2] 73 ∧ Blk wr (w.heap.size + 1 + 1) #[.bool false, .slice none 0 0] 73 ∧ Blk wr (w.heap.size + 1 + 1 + 1) #[.bool false, sl] 73
theorem TimW.alloc {w wr : World} {m1 m2 : Bool} {v1 v2 sl : Value} (h : TimW w wr m1 m2 v1 v2 sl) (o : Obj) : TimW w (wr.alloc o) m1 m2 v1 v2 sl := ⟨h.1.alloc h.1.size o, h.2.1.alloc o, h.2.2.1.alloc o, h.2.2.2.1.alloc o, h.2.2.2.2.alloc o⟩
theorem TimW.set {w wr : World} {m1 m2 : Bool} {v1 v2 sl : Value} (h : TimW w wr m1 m2 v1 v2 sl) (u : Value) : TimW w (wr.setCell ⟨w.heap.size + 1 + 1 + 1, 1, none⟩ u) m1 m2 v1 v2 u :=
  ⟨h.1.setCell (by simp; omega) _, h.2.1.setOther (by omega) _ _, h.2.2.1.setOther (by omega) _ _, h.2.2.2.1.setOther (by omega) _ _, by simpa using h.2.2.2.2.set 1 u⟩
theorem TimW.put {w wr : World} {m1 m2 : Bool} {v1 v2 sl : Value} (h : TimW w wr m1 m2 v1 v2 sl) {g : Nat} (hg : w.heap.size + 4 ≤ g) (j : Nat) (u : Value) : TimW w (wr.setCell ⟨g, j, none⟩ u) m1 m2 v1 v2 sl :=
  ⟨h.1.setCell (by simp; omega) _, h.2.1.setOther (by omega) _ _, h.2.2.1.setOther (by omega) _ _, h.2.2.2.1.setOther (by omega) _ _, h.2.2.2.2.setOther (by omega) _ _⟩
theorem TimW.drew {w wr : World} {m1 m2 : Bool} {v1 v2 sl : Value} (h : TimW w wr m1 m2 v1 v2 sl) : TimW w wr.drew m1 m2 v1 v2 sl := ⟨h.1.drew, h.2.1, h.2.2.1, h.2.2.2.1, h.2.2.2.2⟩
theorem OwnDig.drew {w : World} {base : Nat} {v : Value} {L : List Int} (h : OwnDig w base v L) : OwnDig w.drew base v L := World.ownsRow.drew h
theorem TimW.grown {w wr w8 : World} {m1 m2 : Bool} {v1 v2 sl v : Value} {L : List Int} (h : TimW w wr m1 m2 v1 v2 sl) (ho : OwnDig wr (w.heap.size + 4) v L) (hz : w.heap.size + 4 ≤ wr.heap.size) (hg : wr.grownBy w8 v.ownBlock) : TimW w w8 m1 m2 v1 v2 sl :=
  ⟨h.1.trans ((OwnG.grown ho hz hg).mono (by omega)),
    (hg.block w.heap.size (by omega) (fun e => absurd (OwnG.lt ho _ e.symm).1 (by omega))).trans h.2.1,
    (hg.block (w.heap.size + 1) (by omega) (fun e => absurd (OwnG.lt ho _ e.symm).1 (by omega))).trans h.2.2.1,
    (hg.block (w.heap.size + 1 + 1) (by omega) (fun e => absurd (OwnG.lt ho _ e.symm).1 (by omega))).trans h.2.2.2.1,
    (hg.block (w.heap.size + 1 + 1 + 1) (by omega) (fun e => absurd (OwnG.lt ho _ e.symm).1 (by omega))).trans h.2.2.2.2⟩

set_option maxRecDepth 100000 in
set_option maxHeartbeats 4000000 in
theorem times_any (m1 m2 : Bool) (v1 v2 : Value) (L1 L2 : List Int) (w : World) (h1 : DigV w v1 L1) (h2 : DigV w v2 L2) (n1 : DigOk L1) (n2 : DigOk L2) (hl : L1.length + L2.length ≤ 5000) :
    Calls Tryz.prog 67 #[.agg #[.bool m1, v1], .agg #[.bool m2, v2]] w fun e w' => ∃ v' L, e = .returned (.agg #[.bool ((m1 != m2) && decide (0 < L.length)), v']) ∧ DigB w' w.heap.size v' L ∧ Norm L ∧ valD L = valD L1 * valD L2 ∧ Below w.heap.size w w' := by
  obtain ⟨i0, hi, hz0, hz1, hz2⟩ := info_parts info83
  have HI := Lib.hid hi
  have HZ0 := Lib.hid hz0
  have HZ1 := Lib.hid hz1
  have HZ2 := Lib.hid hz2
  clear hi hz0 hz1 hz2
  obtain ⟨A1, c1, rfl, hc1, HA1⟩ := DigV.open h1
  obtain ⟨A2, c2, rfl, hc2, HA2⟩ := DigV.open h2
  have N1 := Lib.hid n1
  have N2 := Lib.hid n2
  clear h1 h2 n1 n2
  go_enter Tryz.func67, Tryz.ntmps67
  go_wp2_with fail
  have hb4 := ((((Below.refl w.heap.size w).alloc (Nat.le_refl _) (Obj.cells #[Value.bool m1, Value.slice A1 L1.length c1] 73)).alloc (by simp) (Obj.cells #[Value.bool m2, Value.slice A2 L2.length c2] 73)).alloc (by simp; omega) (Obj.cells #[Value.bool false, Value.slice none 0 0] 73)).alloc (by simp; omega) (Obj.cells #[Value.bool false, Value.slice none 0 0] 73)
  have s1 := (((Blk.new w #[Value.bool m1, Value.slice A1 L1.length c1] 73).alloc (Obj.cells #[Value.bool m2, Value.slice A2 L2.length c2] 73)).alloc (Obj.cells #[Value.bool false, Value.slice none 0 0] 73)).alloc (Obj.cells #[Value.bool false, Value.slice none 0 0] 73)
  have s2 := ((Blk.atB (w := w.alloc (Obj.cells #[Value.bool m1, Value.slice A1 L1.length c1] 73)) (b := w.heap.size + 1) (cs := #[Value.bool m2, Value.slice A2 L2.length c2]) (t := 73) (by simp)).alloc (Obj.cells #[Value.bool false, Value.slice none 0 0] 73)).alloc (Obj.cells #[Value.bool false, Value.slice none 0 0] 73)
  have s3 := (Blk.atB (w := (w.alloc (Obj.cells #[Value.bool m1, Value.slice A1 L1.length c1] 73)).alloc (Obj.cells #[Value.bool m2, Value.slice A2 L2.length c2] 73)) (b := w.heap.size + 1 + 1) (cs := #[Value.bool false, Value.slice none 0 0]) (t := 73) (by simp)).alloc (Obj.cells #[Value.bool false, Value.slice none 0 0] 73)
  have s4 := Blk.atB (w := ((w.alloc (Obj.cells #[Value.bool m1, Value.slice A1 L1.length c1] 73)).alloc (Obj.cells #[Value.bool m2, Value.slice A2 L2.length c2] 73)).alloc (Obj.cells #[Value.bool false, Value.slice none 0 0] 73)) (b := w.heap.size + 1 + 1 + 1) (cs := #[Value.bool false, Value.slice none 0 0]) (t := 73) (by simp)
  have hT0 : TimW w _ m1 m2 (.slice A1 L1.length c1) (.slice A2 L2.length c2) (.slice none 0 0) := ⟨hb4, s1, s2, s3, s4⟩
  clear hb4 s1 s2 s3 s4

  go_loopw [6] (fun i wr => ∃ (k : Nat) (sl : Value), i = .int .i64 (k : Int) ∧ k ≤ L1.length + L2.length ∧ TimW w wr m1 m2 (.slice A1 L1.length c1) (.slice A2 L2.length c2) sl ∧ Hid (OwnDig wr (w.heap.size + 4) sl (List.replicate k 0))) (fun i _ => L1.length + L2.length - (intOf i).toNat)
  case atStart => exact ⟨0, _, rfl, Nat.zero_le _, hT0, OwnG.nil 83 _ _⟩
  case round =>
    obtain ⟨k, sl, rfl, hk, hT, HO⟩ := hrel
    clear hT0
    obtain ⟨hb, b1, b2, bR, bO⟩ := hT
    have hz := bO.lt
    have x0 := b1.cell 0
    have x1 := b1.cell 1
    have y0 := b2.cell 0
    have y1 := b2.cell 1
    have c0 := bO.cell 0
    have c1' := bO.cell 1
    have f1 := bO.frozen 1
    simp only [List.getElem?_toArray, List.getElem?_cons_zero, List.getElem?_cons_succ] at x0 x1 y0 y1 c0 c1'
    by_cases hlt : k < L1.length + L2.length
    · have HO7 := Lib.hid (HO.out.alloc (.cells #[.int .u64 0] 83))
      have HV7 := Lib.hid (digV_at wr wr.heap.size 0 rfl)
      have hz7 : w.heap.size + 4 ≤ (wr.alloc (.cells #[.int .u64 0] 83)).heap.size := by simp; omega
      have hT7 := TimW.alloc (w := w) ⟨hb, b1, b2, bR, bO⟩ (.cells #[.int .u64 0] 83)
      have hrl : (List.replicate k (0 : Int)).length = k := by simp
      go_wp2_with (at_builtin; refine wpList_append_g hkD (by decide) 71 83 i0 _ 8 Tryz.underlying71 HI.out HZ0.out HZ1.out HZ2.out rfl _ rfl (.tmp 26) (.tmp 27) rfl (w.heap.size + 4) _ _ (List.replicate k 0) [0] rfl rfl HO7.out HV7.out (one_dig _) (by unfold maxLen; simp only [List.length_singleton, List.length_replicate]; omega) (by simp only [List.length_singleton, List.length_replicate]; omega) hz7 ?_; intro v8 w8 ho8 hg8; obtain ⟨A8, n8, c8, rfl⟩ : ∃ A n c, v8 = .slice A n c := by { obtain ⟨A, c, h⟩ := own_shape ho8; exact ⟨_, _, _, h⟩ }; have hT8 := hT7.grown HO7.out hz7 hg8; obtain ⟨hb8, bb1, bb2, bbR, bbO⟩ := hT8; have d1 := bbO.cell 1; have g1 := bbO.frozen 1; simp only [List.getElem?_toArray, List.getElem?_cons_zero, List.getElem?_cons_succ] at d1)
      have hT9 := TimW.set (w := w) ⟨hb8, bb1, bb2, bbR, bbO⟩ (.slice A8 n8 c8)
      refine ⟨⟨k + 1, _, by simp, by omega, hT9, ?_⟩, by simp [intOf]; omega⟩
      rw [show List.replicate (k + 1) (0 : Int) = List.replicate k 0 ++ [0] from List.replicate_succ']
      exact OwnDig.setOther ho8 (by omega) _ _
    · obtain rfl : k = L1.length + L2.length := by omega
      have hT := (⟨hb, b1, b2, bR, bO⟩ : TimW w wr m1 m2 (.slice A1 L1.length c1) (.slice A2 L2.length c2) sl)
      go_wp2_with fail
      clear hb b1 b2 bR bO x0 x1 y0 y1 c0 c1' f1 hz hlt hk
      have hD0 : Hid (DigOk (List.replicate (L1.length + L2.length) 0) ∧ (List.replicate (L1.length + L2.length) (0 : Int)).length = L1.length + L2.length ∧ valD (List.replicate (L1.length + L2.length) 0) = prodV L1 L2 0 0) := ⟨digOk_rep _, by simp, by rw [valD_rep, prodV_zero]⟩
      revert hD0 HO
      generalize List.replicate (L1.length + L2.length) (0 : Int) = L0
      intro HO hD0
      go_loopw [33] (fun i wy => ∃ (k : Nat) (sy : Value) (L : List Int), i = .int .i64 (k : Int) ∧ k ≤ L1.length ∧ TimW w wy m1 m2 (.slice A1 L1.length c1) (.slice A2 L2.length c2) sy ∧ Hid (OwnDig wy (w.heap.size + 4) sy L) ∧ Hid (DigOk L ∧ L.length = L1.length + L2.length ∧ valD L = prodV L1 L2 k 0)) (fun i _ => L1.length - (intOf i).toNat)
      case atStart => exact ⟨0, sl, L0, rfl, Nat.zero_le _, hT, HO, hD0⟩
      case round =>
        clear HO hD0 hT
        obtain ⟨k, sy, L, rfl, hk, hT, HO, hD⟩ := hrel
        by_cases hk1 : k < L1.length
        · obtain ⟨hb, b1, b2, bR, bO⟩ := id hT
          have y1 := b2.cell 1
          simp only [List.getElem?_toArray, List.getElem?_cons_zero, List.getElem?_cons_succ] at y1
          obtain ⟨q1, o1, rfl, hq1, hat1⟩ := HA1.out.resolve_left (by rintro rfl; simp at hk1)
          have hd1 := N1.out L1[k] (List.getElem_mem hk1)
          have e1 := (hb.cell (p := ⟨q1, o1 + k, none⟩) hq1).trans (hat1 k L1[k] (List.getElem?_eq_getElem hk1))
          have HX : ∃ x, Hid (L1[k] = x) := ⟨_, rfl⟩
          obtain ⟨x, HX⟩ := HX
          rw [HX.out] at hd1 e1
          clear hat1
          go_wp2_with fail
          clear y1 b1 b2 bR bO hb e1
          have hk1i : (k : Int) < L1.length := by omega
          go_loopw [41] (fun i wz => ∃ (j : Nat) (sz : Value) (M : List Int), i = .int .i64 (j : Int) ∧ j ≤ L2.length ∧ TimW w wz m1 m2 (.slice (some ⟨q1, o1, none⟩) L1.length c1) (.slice A2 L2.length c2) sz ∧ Hid (OwnDig wz (w.heap.size + 4) sz M) ∧ Hid (DigOk M ∧ M.length = L1.length + L2.length ∧ valD M = prodV L1 L2 k j)) (fun i _ => L2.length - (intOf i).toNat)
          case atStart => exact ⟨0, sy, L, rfl, Nat.zero_le _, hT, HO, hD⟩
          case round =>
            clear hT HO hD
            obtain ⟨j, sz, M, rfl, hj, hT, HO, hD⟩ := hrel
            by_cases hj1 : j < L2.length
            · obtain ⟨hb, b1, b2, bR, bO⟩ := id hT
              obtain ⟨q2, o2, rfl, hq2, hat2⟩ := HA2.out.resolve_left (by rintro rfl; simp at hj1)
              have hd2 := N2.out L2[j] (List.getElem_mem hj1)
              have e2 := (hb.cell (p := ⟨q2, o2 + j, none⟩) hq2).trans (hat2 j L2[j] (List.getElem?_eq_getElem hj1))
              have hI := Lib.hid (TimInv.start N1.out N2.out hk1 hj1 (rfl : k + j = k + j) hD.out.2.1 hD.out.1 hD.out.2.2)
              have HY : ∃ y, Hid (L2[j] = y) := ⟨_, rfl⟩
              obtain ⟨y, HY⟩ := HY
              have hV : Hid (prodV L1 L2 k (j + 1) < pw (L1.length + L2.length)) := by
                have h1 := prodV_le N1.out N2.out k (j + 1) hk1 hj1
                have h2 := prod_room N1.out N2.out
                unfold Hid; omega
              rw [HY.out] at hd2 e2 hI
              rw [HX.out] at hI
              have hxy0 : 0 ≤ x * y := Int.mul_nonneg hd1.1 hd2.1
              have hxy1 : x * y ≤ 999999 * 999999 := Int.mul_le_mul (by omega) (by omega) hd2.1 (by decide)
              have HWxy := Lib.hid (wrap_pos (x * y) hxy0 (by omega))
              clear hat2 hD
              obtain ⟨V, hVe⟩ : ∃ V, prodV L1 L2 k (j + 1) = V := ⟨_, rfl⟩
              rw [hVe] at hI hV
              have HVe := Lib.hid hVe
              clear hVe
              have hwk : IntKind.i64.wrap ((k : Int) + j) = ((k + j : Nat) : Int) := by
                simp only [IntKind.wrap, IntKind.bits, IntKind.signed]
                simp
                omega
              obtain ⟨p0, hp0⟩ : ∃ p0, k + j = p0 := ⟨_, rfl⟩
              rw [hp0] at hI hwk
              clear hp0
              obtain ⟨z, hz⟩ : ∃ z, x * y = z := ⟨_, rfl⟩
              have hwz : IntKind.u64.wrap (x * y) = z := by rw [HWxy.out, hz]
              rw [hz] at hI hxy0 hxy1
              clear HWxy hz
              go_wp2_with fail
              clear b1 b2 bR bO hb e2 hwz hwk
              go_loopw [11, 12] (fun kk c wv => ∃ (p : Nat) (q : Int) (sv : Value) (K : List Int), kk = .int .i64 (p : Int) ∧ c = .int .u64 q ∧ TimW w wv m1 m2 (.slice (some ⟨q1, o1, none⟩) L1.length c1) (.slice (some ⟨q2, o2, none⟩) L2.length c2) sv ∧ Hid (OwnDig wv (w.heap.size + 4) sv K) ∧ Hid (TimInv V (L1.length + L2.length) K p q)) (fun kk _ _ => L1.length + L2.length - (intOf kk).toNat)
              case atStart => exact ⟨p0, z, sz, M, rfl, rfl, hT, HO, hI⟩
              case round =>
                clear hT HO hI
                obtain ⟨p, q, sv, K, rfl, rfl, hT, HO, hI⟩ := hrel
                have hq0 : 0 ≤ q := hI.out.2.2.1
                have hq1' : q < 1000000000000 := hI.out.2.2.2.1
                by_cases hq : 0 < q
                · have hp : p < L1.length + L2.length := hI.out.room hV.out hq
                  have hKl := hI.out.2.1
                  obtain ⟨g, cap, rfl, hg, hglt, hgc, hgf⟩ := HO.out.some (by omega)
                  have e3 := HO.out.cellAt p (by omega)
                  have hd3 := hI.out.1 K[p] (List.getElem_mem (by omega))
                  have hS := Lib.hid (hI.out.step (by omega) (K[p] + q) rfl)
                  obtain ⟨s, hs⟩ : ∃ s, K[p] + q = s := ⟨_, rfl⟩
                  obtain ⟨t, ht⟩ : ∃ t, K[p] = t := ⟨_, rfl⟩
                  rw [hs] at hS
                  rw [ht] at e3 hd3 hs
                  have hws : IntKind.u64.wrap (t + q) = s := by rw [hs]; exact wrap_pos s (by omega) (by omega)
                  have hs0 : 0 ≤ s := by omega
                  have hqt : s.tdiv 1000000 = s / 1000000 := Int.tdiv_eq_ediv_of_nonneg hs0
                  have hqm : s.tmod 1000000 = s % 1000000 := Int.tmod_eq_emod_of_nonneg hs0
                  have hwq : IntKind.u64.wrap (s / 1000000) = s / 1000000 := wrap_pos _ (by omega) (by omega)
                  have hpl : (p : Int) < (K.length : Int) := by omega
                  have hOa := Lib.hid (HO.out.put p s)
                  have hTa := hT.put hg p (.int .u64 s)
                  have f3 := HO.out.frozenAt p
                  have e4 := hOa.out.cellAt p (by rw [List.length_set]; omega)
                  rw [List.getElem_set_self] at e4
                  obtain ⟨_, _, _, _, bO⟩ := id hT
                  have d1 := bO.cell 1
                  simp only [List.getElem?_toArray, List.getElem?_cons_zero, List.getElem?_cons_succ] at d1
                  have hset : (K.set p s).set p (s % 1000000) = K.set p (s % 1000000) := List.set_set ..
                  have hI2 := hI
                  clear hI bO HO hT hs ht
                  go_wp2_with fail
                  go_region
                  rename_i K0 hK0
                  change K0 _ _
                  refine hK0 _ _ ?_
                  have hT1 := hTa.drew
                  have hO1 := Lib.hid hOa.out.drew
                  have e1 : (wr.setCell ⟨g, p, none⟩ (.int .u64 s)).drew.cell? ⟨g, p, none⟩ = some (.int .u64 s) := e4
                  clear hTa hOa e4 e3 f3 d1
                  revert hT1 hO1 e1
                  generalize (wr.setCell ⟨g, p, none⟩ (.int .u64 s)).drew = W1
                  intro hT1 hO1 e1
                  have f1 := hO1.out.frozenAt p
                  obtain ⟨_, _, _, _, bO⟩ := id hT1
                  have d1 := bO.cell 1
                  simp only [List.getElem?_toArray, List.getElem?_cons_zero, List.getElem?_cons_succ] at d1
                  have hOb := Lib.hid (hO1.out.put p (s % 1000000)).drew
                  have hTb := (hT1.put hg p (.int .u64 (s % 1000000))).drew
                  rw [hset] at hOb
                  clear bO hset hT1 hO1
                  go_wp2_with fail
                  go_region
                  rename_i K1 hK1
                  change K1 _ _
                  refine hK1 _ _ ?_
                  go_wp2_with fail
                  refine ⟨⟨p + 1, s / 1000000, _, _, by simp, rfl, hTb, hOb, hS⟩, ?_⟩
                  simp [intOf]
                  omega
                · obtain rfl : q = 0 := by omega
                  have hDn : Hid (DigOk K ∧ K.length = L1.length + L2.length ∧ valD K = prodV L1 L2 k (j + 1)) := by
                    unfold Hid
                    rw [HVe.out]
                    exact hI.out.done
                  clear hI
                  go_wp2_with fail
                  refine ⟨⟨j + 1, sv, K, by simp, by omega, hT, HO, hDn⟩, ?_⟩
                  simp [intOf]
                  omega
            · obtain rfl : j = L2.length := by omega
              have hDn : Hid (DigOk M ∧ M.length = L1.length + L2.length ∧ valD M = prodV L1 L2 (k + 1) 0) := by
                unfold Hid
                rw [← prodV_row L1 L2 k hk1]
                exact hD.out
              clear hD
              go_wp2_with fail
              refine ⟨⟨k + 1, sz, M, by simp, by omega, hT, HO, hDn⟩, ?_⟩
              simp [intOf]
              omega
        · obtain rfl : k = L1.length := by omega
          rw [prodV_end] at hD
          obtain ⟨A, c, rfl⟩ := own_shape HO.out
          obtain ⟨hb, b1, b2, bR, bO⟩ := id hT
          have x0 := b1.cell 0
          have y0 := b2.cell 0
          have c0 := bO.cell 0
          have c1' := bO.cell 1
          have f0 := bO.frozen 0
          have f1 := bO.frozen 1
          simp only [List.getElem?_toArray, List.getElem?_cons_zero, List.getElem?_cons_succ] at x0 y0 c0 c1'
          go_wp2_with fail
          refine (trimmed_any A c L _ (OwnG.val hkD HO.out) hD.out.1 (by rw [hD.out.2.1]; exact hl)).mono ?_
          rintro e w9 ⟨n, hn, rfl, hN, hVn, hb9⟩
          have hlt : (L.take n).length = n := by rw [List.length_take]; omega
          have hDg := Lib.hid ((HO.out.dig (Nat.le_refl _)).cut n hn)
          have hDg9 := Lib.hid (hDg.out.below hb9)
          have hb10 := hb.trans (hb9.mono hb.size)
          have b19 := b1.below hb9
          have b29 := b2.below hb9
          have bR9 := bR.below hb9
          have bO9 := bO.below hb9
          have hV9 := Lib.hid (hVn.trans hD.out.2.2)
          have hN9 := Lib.hid hN
          clear x0 y0 c0 c1' f0 f1 b1 b2 bR bO hb hT HO hD hDg hb9 hVn hN
          have x0 := b19.cell 0
          have y0 := b29.cell 0
          have c0 := bO9.cell 0
          have c1' := bO9.cell 1
          have f0 := bO9.frozen 0
          have f1 := bO9.frozen 1
          have r0 := bR9.cell 0
          have r1 := bR9.cell 1
          have g0 := bR9.frozen 0
          have g1 := bR9.frozen 1
          simp only [List.getElem?_toArray, List.getElem?_cons_zero, List.getElem?_cons_succ] at x0 y0 c0 c1' r0 r1
          have hz9 := bO9.lt
          by_cases hn0 : 0 < n
          · have hn0i : (0 : Int) < n := by omega
            cases m1 <;> cases m2
            · have HE : Ending.returned (.agg #[.bool false, .slice A n c]) = Ending.returned (.agg #[.bool ((false != false) && decide (0 < (L.take n).length)), .slice A n c]) := by rw [hlt]; simp [hn0]
              go_wp2_with fail
              have bF := ((((bR9.setOther (b' := w.heap.size + 1 + 1 + 1) (by omega) 0 (.bool false)).setOther (b' := w.heap.size + 1 + 1 + 1) (by omega) 1 (.slice A n c)).setOther (b' := w.heap.size + 1 + 1 + 1) (by omega) 0 (.bool false)).set 0 (.bool false)).set 1 (.slice A n c)
              have d0 := bF.cell 0
              have d1 := bF.cell 1
              simp only [List.setIfInBounds_toArray, List.set_cons_zero, List.set_cons_succ, List.getElem?_toArray, List.getElem?_cons_zero, List.getElem?_cons_succ] at d0 d1
              refine bodyPost_ret (v := .agg #[.bool false, .slice A n c]) (by simp [results, Tryz.results67, go_sem, d0, d1]) rfl ⟨_, L.take n, HE, ?_, hN9.out, hV9.out, ?_⟩
              · exact ((((((hDg9.out.set (by omega)).set (by omega)).set (by omega)).set (by omega)).set (by omega)).more (by omega))
              · exact ((((hb10.setCell (by simp; omega) _).setCell (by simp; omega) _).setCell (by simp; omega) _).setCell (by simp; omega) _).setCell (by simp; omega) _
            · have HE : Ending.returned (.agg #[.bool true, .slice A n c]) = Ending.returned (.agg #[.bool ((false != true) && decide (0 < (L.take n).length)), .slice A n c]) := by rw [hlt]; simp [hn0]
              go_wp2_with fail
              have bF := ((((bR9.setOther (b' := w.heap.size + 1 + 1 + 1) (by omega) 0 (.bool false)).setOther (b' := w.heap.size + 1 + 1 + 1) (by omega) 1 (.slice A n c)).setOther (b' := w.heap.size + 1 + 1 + 1) (by omega) 0 (.bool true)).set 0 (.bool true)).set 1 (.slice A n c)
              have d0 := bF.cell 0
              have d1 := bF.cell 1
              simp only [List.setIfInBounds_toArray, List.set_cons_zero, List.set_cons_succ, List.getElem?_toArray, List.getElem?_cons_zero, List.getElem?_cons_succ] at d0 d1
              refine bodyPost_ret (v := .agg #[.bool true, .slice A n c]) (by simp [results, Tryz.results67, go_sem, d0, d1]) rfl ⟨_, L.take n, HE, ?_, hN9.out, hV9.out, ?_⟩
              · exact ((((((hDg9.out.set (by omega)).set (by omega)).set (by omega)).set (by omega)).set (by omega)).more (by omega))
              · exact ((((hb10.setCell (by simp; omega) _).setCell (by simp; omega) _).setCell (by simp; omega) _).setCell (by simp; omega) _).setCell (by simp; omega) _
            · have HE : Ending.returned (.agg #[.bool true, .slice A n c]) = Ending.returned (.agg #[.bool ((true != false) && decide (0 < (L.take n).length)), .slice A n c]) := by rw [hlt]; simp [hn0]
              go_wp2_with fail
              have bF := ((((bR9.setOther (b' := w.heap.size + 1 + 1 + 1) (by omega) 0 (.bool false)).setOther (b' := w.heap.size + 1 + 1 + 1) (by omega) 1 (.slice A n c)).setOther (b' := w.heap.size + 1 + 1 + 1) (by omega) 0 (.bool true)).set 0 (.bool true)).set 1 (.slice A n c)
              have d0 := bF.cell 0
              have d1 := bF.cell 1
              simp only [List.setIfInBounds_toArray, List.set_cons_zero, List.set_cons_succ, List.getElem?_toArray, List.getElem?_cons_zero, List.getElem?_cons_succ] at d0 d1
              refine bodyPost_ret (v := .agg #[.bool true, .slice A n c]) (by simp [results, Tryz.results67, go_sem, d0, d1]) rfl ⟨_, L.take n, HE, ?_, hN9.out, hV9.out, ?_⟩
              · exact ((((((hDg9.out.set (by omega)).set (by omega)).set (by omega)).set (by omega)).set (by omega)).more (by omega))
              · exact ((((hb10.setCell (by simp; omega) _).setCell (by simp; omega) _).setCell (by simp; omega) _).setCell (by simp; omega) _).setCell (by simp; omega) _
            · have HE : Ending.returned (.agg #[.bool false, .slice A n c]) = Ending.returned (.agg #[.bool ((true != true) && decide (0 < (L.take n).length)), .slice A n c]) := by rw [hlt]; simp [hn0]
              go_wp2_with fail
              have bF := ((((bR9.setOther (b' := w.heap.size + 1 + 1 + 1) (by omega) 0 (.bool false)).setOther (b' := w.heap.size + 1 + 1 + 1) (by omega) 1 (.slice A n c)).setOther (b' := w.heap.size + 1 + 1 + 1) (by omega) 0 (.bool false)).set 0 (.bool false)).set 1 (.slice A n c)
              have d0 := bF.cell 0
              have d1 := bF.cell 1
              simp only [List.setIfInBounds_toArray, List.set_cons_zero, List.set_cons_succ, List.getElem?_toArray, List.getElem?_cons_zero, List.getElem?_cons_succ] at d0 d1
              refine bodyPost_ret (v := .agg #[.bool false, .slice A n c]) (by simp [results, Tryz.results67, go_sem, d0, d1]) rfl ⟨_, L.take n, HE, ?_, hN9.out, hV9.out, ?_⟩
              · exact ((((((hDg9.out.set (by omega)).set (by omega)).set (by omega)).set (by omega)).set (by omega)).more (by omega))
              · exact ((((hb10.setCell (by simp; omega) _).setCell (by simp; omega) _).setCell (by simp; omega) _).setCell (by simp; omega) _).setCell (by simp; omega) _
          · obtain rfl : n = 0 := by omega
            cases m1 <;> cases m2
            · have HE : Ending.returned (.agg #[.bool false, .slice A 0 c]) = Ending.returned (.agg #[.bool ((false != false) && decide (0 < (L.take 0).length)), .slice A 0 c]) := by rw [hlt]; simp
              go_wp2_with fail
              have bF := ((((bR9.setOther (b' := w.heap.size + 1 + 1 + 1) (by omega) 0 (.bool false)).setOther (b' := w.heap.size + 1 + 1 + 1) (by omega) 1 (.slice A 0 c)).setOther (b' := w.heap.size + 1 + 1 + 1) (by omega) 0 (.bool false)).set 0 (.bool false)).set 1 (.slice A 0 c)
              have d0 := bF.cell 0
              have d1 := bF.cell 1
              simp only [List.setIfInBounds_toArray, List.set_cons_zero, List.set_cons_succ, List.getElem?_toArray, List.getElem?_cons_zero, List.getElem?_cons_succ] at d0 d1
              refine bodyPost_ret (v := .agg #[.bool false, .slice A 0 c]) (by simp [results, Tryz.results67, go_sem, d0, d1]) rfl ⟨_, L.take 0, HE, ?_, hN9.out, hV9.out, ?_⟩
              · exact ((((((hDg9.out.set (by omega)).set (by omega)).set (by omega)).set (by omega)).set (by omega)).more (by omega))
              · exact ((((hb10.setCell (by simp; omega) _).setCell (by simp; omega) _).setCell (by simp; omega) _).setCell (by simp; omega) _).setCell (by simp; omega) _
            · have HE : Ending.returned (.agg #[.bool false, .slice A 0 c]) = Ending.returned (.agg #[.bool ((false != true) && decide (0 < (L.take 0).length)), .slice A 0 c]) := by rw [hlt]; simp
              go_wp2_with fail
              have bF := ((((bR9.setOther (b' := w.heap.size + 1 + 1 + 1) (by omega) 0 (.bool false)).setOther (b' := w.heap.size + 1 + 1 + 1) (by omega) 1 (.slice A 0 c)).setOther (b' := w.heap.size + 1 + 1 + 1) (by omega) 0 (.bool false)).set 0 (.bool false)).set 1 (.slice A 0 c)
              have d0 := bF.cell 0
              have d1 := bF.cell 1
              simp only [List.setIfInBounds_toArray, List.set_cons_zero, List.set_cons_succ, List.getElem?_toArray, List.getElem?_cons_zero, List.getElem?_cons_succ] at d0 d1
              refine bodyPost_ret (v := .agg #[.bool false, .slice A 0 c]) (by simp [results, Tryz.results67, go_sem, d0, d1]) rfl ⟨_, L.take 0, HE, ?_, hN9.out, hV9.out, ?_⟩
              · exact ((((((hDg9.out.set (by omega)).set (by omega)).set (by omega)).set (by omega)).set (by omega)).more (by omega))
              · exact ((((hb10.setCell (by simp; omega) _).setCell (by simp; omega) _).setCell (by simp; omega) _).setCell (by simp; omega) _).setCell (by simp; omega) _
            · have HE : Ending.returned (.agg #[.bool false, .slice A 0 c]) = Ending.returned (.agg #[.bool ((true != false) && decide (0 < (L.take 0).length)), .slice A 0 c]) := by rw [hlt]; simp
              go_wp2_with fail
              have bF := ((((bR9.setOther (b' := w.heap.size + 1 + 1 + 1) (by omega) 0 (.bool false)).setOther (b' := w.heap.size + 1 + 1 + 1) (by omega) 1 (.slice A 0 c)).setOther (b' := w.heap.size + 1 + 1 + 1) (by omega) 0 (.bool false)).set 0 (.bool false)).set 1 (.slice A 0 c)
              have d0 := bF.cell 0
              have d1 := bF.cell 1
              simp only [List.setIfInBounds_toArray, List.set_cons_zero, List.set_cons_succ, List.getElem?_toArray, List.getElem?_cons_zero, List.getElem?_cons_succ] at d0 d1
              refine bodyPost_ret (v := .agg #[.bool false, .slice A 0 c]) (by simp [results, Tryz.results67, go_sem, d0, d1]) rfl ⟨_, L.take 0, HE, ?_, hN9.out, hV9.out, ?_⟩
              · exact ((((((hDg9.out.set (by omega)).set (by omega)).set (by omega)).set (by omega)).set (by omega)).more (by omega))
              · exact ((((hb10.setCell (by simp; omega) _).setCell (by simp; omega) _).setCell (by simp; omega) _).setCell (by simp; omega) _).setCell (by simp; omega) _
            · have HE : Ending.returned (.agg #[.bool false, .slice A 0 c]) = Ending.returned (.agg #[.bool ((true != true) && decide (0 < (L.take 0).length)), .slice A 0 c]) := by rw [hlt]; simp
              go_wp2_with fail
              have bF := ((((bR9.setOther (b' := w.heap.size + 1 + 1 + 1) (by omega) 0 (.bool false)).setOther (b' := w.heap.size + 1 + 1 + 1) (by omega) 1 (.slice A 0 c)).setOther (b' := w.heap.size + 1 + 1 + 1) (by omega) 0 (.bool false)).set 0 (.bool false)).set 1 (.slice A 0 c)
              have d0 := bF.cell 0
              have d1 := bF.cell 1
              simp only [List.setIfInBounds_toArray, List.set_cons_zero, List.set_cons_succ, List.getElem?_toArray, List.getElem?_cons_zero, List.getElem?_cons_succ] at d0 d1
              refine bodyPost_ret (v := .agg #[.bool false, .slice A 0 c]) (by simp [results, Tryz.results67, go_sem, d0, d1]) rfl ⟨_, L.take 0, HE, ?_, hN9.out, hV9.out, ?_⟩
              · exact ((((((hDg9.out.set (by omega)).set (by omega)).set (by omega)).set (by omega)).set (by omega)).more (by omega))
              · exact ((((hb10.setCell (by simp; omega) _).setCell (by simp; omega) _).setCell (by simp; omega) _).setCell (by simp; omega) _).setCell (by simp; omega) _

end Go.Proofs.YtippffjhkinfoaaGreatDoor
