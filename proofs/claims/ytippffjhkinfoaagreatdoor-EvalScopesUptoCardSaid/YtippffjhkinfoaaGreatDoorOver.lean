/-
  The reference's whole numbers: quotients.
-/
import Derived.Test.YtippffjhkinfoaaGreatDoorBig6
import Derived.Test.YtippffjhkinfoaaGreatDoorBigF
import Derived.Test.YtippffjhkinfoaaGreatDoorOverP
import Derived.Test.YtippffjhkinfoaaGreatDoorBigN
import Derived.Deep.CutRange
import Derived.Deep.RegionHeld3
import Derived.Laws.Bits64b
namespace Go.Proofs.YtippffjhkinfoaaGreatDoor
open Go.RowKit

/-- The bit that comes next: one less than how many are left. -/
def bitV : Nat → Value
  | 0 => .int .i64 (-1)
  | j + 1 => .int .i64 (j : Int)
theorem bitV_pred (j : Nat) : Value.int .i64 ((j : Int) - 1) = bitV j := by
  cases j with
  | zero => rfl
  | succ j => show Value.int .i64 _ = Value.int .i64 _; congr 1; omega

theorem ov_le {a b : Nat} (h : a ≤ b) : ordI (a : Int) (b : Int) ≤ 0 := by unfold ordI; split <;> (try split) <;> omega
theorem ov_gt {a b : Nat} (h : b < a) : 0 < ordI (a : Int) (b : Int) := by unfold ordI; split <;> (try split) <;> omega
theorem ov_len {L : List Int} (h : Norm L) {T Y x : Nat} {L2 : List Int} (d2 : DigOk L2) (hY : valD L2 = (Y : Int)) (l2 : L2.length ≤ 1000) (hT : T < 18446744073709551616) (hx : x ≤ T * Y) (hv : valD L = (x : Int)) : L.length ≤ 1004 := by
  refine h.len_of ?_
  have h2 := (valD_bound d2).2
  have h3 : pw L2.length ≤ pw 1000 := pw_mono l2
  have h4 : (Y : Int) < pw 1000 := by omega
  have h5 : (T : Int) < pw 4 := by
    have e : pw 4 = 1000000000000000000000000 := by decide
    omega
  have h6 : ((T * Y : Nat) : Int) ≤ (T : Int) * pw 1000 := by
    rw [Int.natCast_mul]
    exact Int.mul_le_mul_of_nonneg_left (by omega) (by omega)
  have h7 : (T : Int) * pw 1000 < pw 4 * pw 1000 := Int.mul_lt_mul_of_pos_right h5 (pw_pos _)
  rw [show (1004 : Nat) = 4 + 1000 from rfl, pw_add]
  omega

theorem cell_al {w : World} {a : Addr} {v : Value} {o : Obj} (h : w.cell? a = some v) : (w.alloc o).cell? a = some v :=
  (World.cell?_alloc_lt _ _ _ (World.block_lt_of_cell? w a h)).trans h

theorem times_ff (v1 v2 : Value) (L1 L2 : List Int) (w : World) (h1 : DigV w v1 L1) (h2 : DigV w v2 L2) (n1 : DigOk L1) (n2 : DigOk L2) (hl : L1.length + L2.length ≤ 5000) :
    Calls Tryz.prog 67 #[.agg #[.bool false, v1], .agg #[.bool false, v2]] w fun e w' => ∃ A c L, e = .returned (.agg #[.bool false, .slice A L.length c]) ∧ DigB w' w.heap.size (.slice A L.length c) L ∧ Norm L ∧ valD L = valD L1 * valD L2 ∧ Below w.heap.size w w' := by
  refine (times_any false false v1 v2 L1 L2 w h1 h2 n1 n2 hl).mono ?_
  rintro e w' ⟨v', L, rfl, hD, hN, hV, hB⟩
  obtain ⟨A, c, rfl, _, _⟩ := DigV.open hD.1
  exact ⟨A, c, L, by simp, hD, hN, hV, hB⟩

/-- The sign that a quotient is given: a nought has none. -/
theorem ov_sign {m1 m2 : Bool} {z : Int} {Q : Nat} {L9 : List Int} (hz : z = if (m1 != m2) then -(Q : Int) else (Q : Int)) (hv : valD L9 = (Q : Int)) : zOf ((m1 != m2) && decide (0 < L9.length)) L9 = z := by
  rw [hz]
  cases h : (m1 != m2)
  · show valD L9 = _
    rw [hv]; rfl
  · show zOf (decide (0 < L9.length)) L9 = _
    rw [zOf_dec, hv]; rfl

/-- The four boxes of a quotient. -/
def OvW (w wr : World) (m1 m2 : Bool) (v1 v2 : Value) : Prop := Below w.heap.size w wr ∧ Blk wr w.heap.size #[.bool m1, v1] 73 ∧ Blk wr (w.heap.size + 1) #[.bool m2, v2] 73 ∧ Blk wr (w.heap.size + 1 + 1) #[.bool false, v1] 73 ∧ Blk wr (w.heap.size + 1 + 1 + 1) #[.bool false, v2] 73
theorem OvW.below {w wr wz : World} {m1 m2 : Bool} {v1 v2 : Value} (h : OvW w wr m1 m2 v1 v2) (hb : Below wr.heap.size wr wz) : OvW w wz m1 m2 v1 v2 :=
  ⟨h.1.trans (hb.mono h.1.size), h.2.1.below hb, h.2.2.1.below hb, h.2.2.2.1.below hb, h.2.2.2.2.below hb⟩
theorem OvW.put {w wr : World} {m1 m2 : Bool} {v1 v2 : Value} {hb : Nat} (h : OvW w wr m1 m2 v1 v2) (hn : w.heap.size + 4 ≤ hb) (j : Nat) (u : Value) : OvW w (wr.setCell ⟨hb, j, none⟩ u) m1 m2 v1 v2 :=
  ⟨h.1.setCell (by simp; omega) _, h.2.1.setOther (by omega) _ _, h.2.2.1.setOther (by omega) _ _, h.2.2.2.1.setOther (by omega) _ _, h.2.2.2.2.setOther (by omega) _ _⟩

set_option maxRecDepth 100000 in
set_option maxHeartbeats 4000000 in
theorem over_any (m1 m2 : Bool) (v1 v2 : Value) (L1 L2 : List Int) (w : World) (h1 : DigV w v1 L1) (h2 : DigV w v2 L2) (n1 : Norm L1) (n2 : Norm L2) (l1 : L1.length ≤ 1000) (l2 : L2.length ≤ 1000) (hy : 0 < valD L2) :
    Calls Tryz.prog 70 #[.agg #[.bool m1, v1], .agg #[.bool m2, v2]] w (FitPost ((zOf m1 L1).tdiv (zOf m2 L2)) w) := by
  have N1 := Lib.hid n1
  have N2 := Lib.hid n2
  obtain ⟨A1, c1, rfl, hc1, HA1⟩ := DigV.open h1
  obtain ⟨A2, c2, rfl, hc2, HA2⟩ := DigV.open h2
  have D1 := Lib.hid h1
  have D2 := Lib.hid h2
  clear h1 h2 n1 n2 HA1 HA2
  go_enter Tryz.func70, Tryz.ntmps70
  go_wp2_with fail
  have hb4 := ((((Below.refl w.heap.size w).alloc (Nat.le_refl _) (Obj.cells #[Value.bool m1, Value.slice A1 L1.length c1] 73)).alloc (by simp) (Obj.cells #[Value.bool m2, Value.slice A2 L2.length c2] 73)).alloc (by simp; omega) (Obj.cells #[Value.bool false, Value.slice A1 L1.length c1] 73)).alloc (by simp; omega) (Obj.cells #[Value.bool false, Value.slice A2 L2.length c2] 73)
  have s1 := (((Blk.new w #[Value.bool m1, Value.slice A1 L1.length c1] 73).alloc (Obj.cells #[Value.bool m2, Value.slice A2 L2.length c2] 73)).alloc (Obj.cells #[Value.bool false, Value.slice A1 L1.length c1] 73)).alloc (Obj.cells #[Value.bool false, Value.slice A2 L2.length c2] 73)
  have s2 := ((Blk.atB (w := w.alloc (Obj.cells #[Value.bool m1, Value.slice A1 L1.length c1] 73)) (b := w.heap.size + 1) (cs := #[Value.bool m2, Value.slice A2 L2.length c2]) (t := 73) (by simp)).alloc (Obj.cells #[Value.bool false, Value.slice A1 L1.length c1] 73)).alloc (Obj.cells #[Value.bool false, Value.slice A2 L2.length c2] 73)
  have s3 := (Blk.atB (w := (w.alloc (Obj.cells #[Value.bool m1, Value.slice A1 L1.length c1] 73)).alloc (Obj.cells #[Value.bool m2, Value.slice A2 L2.length c2] 73)) (b := w.heap.size + 1 + 1) (cs := #[Value.bool false, Value.slice A1 L1.length c1]) (t := 73) (by simp)).alloc (Obj.cells #[Value.bool false, Value.slice A2 L2.length c2] 73)
  have s4 := Blk.atB (w := ((w.alloc (Obj.cells #[Value.bool m1, Value.slice A1 L1.length c1] 73)).alloc (Obj.cells #[Value.bool m2, Value.slice A2 L2.length c2] 73)).alloc (Obj.cells #[Value.bool false, Value.slice A1 L1.length c1] 73)) (b := w.heap.size + 1 + 1 + 1) (cs := #[Value.bool false, Value.slice A2 L2.length c2]) (t := 73) (by simp)
  have hT0 : OvW w _ m1 m2 (.slice A1 L1.length c1) (.slice A2 L2.length c2) := ⟨hb4, s1, s2, s3, s4⟩
  clear hb4 s1 s2 s3 s4
  obtain ⟨X, hX⟩ : ∃ X : Nat, valD L1 = (X : Int) := ⟨(valD L1).toNat, by have := (valD_bound N1.out.1).1; omega⟩
  obtain ⟨Y, hY⟩ : ∃ Y : Nat, valD L2 = (Y : Int) := ⟨(valD L2).toNat, by omega⟩
  have HX := Lib.hid hX
  have HY := Lib.hid hY
  have hY0 : 0 < Y := by omega
  clear hX hY hy
  go_loopw [6, 9] (fun q b wr => ∃ (Q k : Nat), q = .int .u64 (Q : Int) ∧ b = bitV k ∧ k ≤ 64 ∧ Hid (OvInv X Y Q k) ∧ OvW w wr m1 m2 (.slice A1 L1.length c1) (.slice A2 L2.length c2)) (fun _ b _ => (intOf b + 1).toNat)
  case atStart => exact ⟨0, 64, rfl, rfl, Nat.le_refl _, OvInv.start X Y, hT0⟩
  case round =>
    clear hT0
    obtain ⟨Q, k, rfl, rfl, hk, hI, hT⟩ := hrel
    cases k with
    | succ j =>
      have hjb : (0 : Int) ≤ (j : Int) := by omega
      obtain ⟨P, hP⟩ : ∃ P, 2 ^ j = P := ⟨_, rfl⟩
      have hp2 : P ≤ 9223372036854775808 := by
        have := Nat.pow_le_pow_right (n := 2) (by decide) (show j ≤ 63 by omega)
        rw [hP] at this
        simpa using this
      have hp1 : 2 ^ (j + 1) = 2 * P := by rw [Nat.pow_succ, Nat.mul_comm, hP]
      have hp0 : 0 < P := by rw [← hP]; exact Nat.two_pow_pos j
      have hpw : IntKind.u64.wrap ((2 : Int) ^ j) = (P : Int) := by
        rw [show ((2 : Int) ^ j) = ((2 ^ j : Nat) : Int) by simp, hP]
        exact wrap_pos _ (by omega) (by omega)
      have hQ2 := hI.out.2.1
      rw [hp1] at hQ2
      have hor : bits .or .u64 (Q : Int) (IntKind.u64.wrap ((2 : Int) ^ j)) = ((Q + P : Nat) : Int) := by
        rw [hpw, ← hP, ← ov_or hI.out.1, hP]
        exact bits_or_u64_nat Q P (by omega) (by omega)
      have HYes := Lib.hid (hI.out.yes)
      have HNo := Lib.hid (hI.out.no)
      rw [hP] at HYes HNo
      obtain ⟨T, hTT⟩ : ∃ T, Q + P = T := ⟨_, rfl⟩
      rw [hTT] at hor HYes HNo
      have hTb : T < 18446744073709551616 := by omega
      have hOf : Hid (∀ w' : World, Calls Tryz.prog 50 #[.int .i64 (IntKind.i64.wrap ((T : Int) / 2))] w' fun e w'' => ∃ A c L, e = .returned (.agg #[.bool false, .slice A L.length c]) ∧ DigB w'' w'.heap.size (.slice A L.length c) L ∧ Norm L ∧ valD L = ((T / 2 : Nat) : Int) ∧ Below w'.heap.size w' w'') := by
        intro w'
        have hwd : IntKind.i64.wrap ((T : Int) / 2) = ((T / 2 : Nat) : Int) := by
          simp only [IntKind.wrap, IntKind.bits, IntKind.signed]
          simp
          omega
        rw [hwd]
        exact of_pos _ w' (by omega) (by omega)
      have hT2 : T / 2 ≤ 9223372036854775807 := by omega
      clear hpw hQ2 hp2 hp1 hP hTT hI hp0
      unfold bitV
      go_upto_region 8 with fail
      go_cut [11] from 29 to 47 (fun p wz => ∃ (hb : Nat) (mh : Bool) (A : Option Addr) (c : Nat) (L : List Int), p = .pointer (some ⟨hb, 0, none⟩) ∧ OvW w wz m1 m2 (.slice A1 L1.length c1) (.slice A2 L2.length c2) ∧ w.heap.size + 4 ≤ hb ∧ Blk wz hb #[.bool mh, .slice A L.length c] 73 ∧ Hid (DigB wz (w.heap.size + 4) (.slice A L.length c) L) ∧ Hid (Norm L ∧ valD L = ((T / 2 * 2 * Y : Nat) : Int)))
      case first =>
        obtain ⟨hb, b1, b2, bX, bY⟩ := id hT
        have y0 := bY.cell 0
        have y1 := bY.cell 1
        simp only [List.getElem?_toArray, List.getElem?_cons_zero, List.getElem?_cons_succ] at y0 y1
        have hr1 := (Below.refl wr.heap.size wr).drew
        have hwz : w.heap.size + 4 ≤ wr.heap.size := by have := bY.lt; omega
        go_region_held3 (fun w' => w'.cell? ⟨w.heap.size + 1 + 1 + 1, 0, none⟩ = some (.bool false) ∧ w'.cell? ⟨w.heap.size + 1 + 1 + 1, 1, none⟩ = some (.slice A2 L2.length c2)) (first | exact ⟨v0, v1⟩ | exact ⟨cell_al v0, cell_al v1⟩ | exact ⟨s0, s1⟩ | exact ⟨cell_al s0, cell_al s1⟩ | exact ⟨u0, u1⟩ | exact ⟨cell_al u0, cell_al u1⟩ | exact ⟨t0, t1⟩ | exact ⟨cell_al t0, cell_al t1⟩ | exact ⟨y0, y1⟩ | exact ⟨cell_al y0, cell_al y1⟩ | exact ⟨cell_set (by omega) (cell_set (by omega) v0), cell_set (by omega) (cell_set (by omega) v1)⟩ | exact ⟨cell_set (by omega) (cell_set (by omega) (cell_al v0)), cell_set (by omega) (cell_set (by omega) (cell_al v1))⟩) ((first
          | (go_at_call 50; (with_reducible refine (hOf.out _).mono ?_); rintro e w2 ⟨A3, c3, L3, rfl, hd3, hn3, hv3, hb3⟩; have hr2 : Below wr.heap.size wr _ := (by first | exact hr1.trans (hb3.mono hr1.size) | exact (hr1.alloc hr1.size _).trans (hb3.mono (hr1.alloc hr1.size _).size)); have bY2 := bY.below hr2; have q2 := hr2.size; have t0 := bY2.cell 0; have t1 := bY2.cell 1; simp only [List.getElem?_toArray, List.getElem?_cons_zero, List.getElem?_cons_succ] at t0 t1; (try (have bH := bH.below hb3; have lH := bH.lt; have z0 := bH.cell 0; have z1 := bH.cell 1; have g0 := bH.frozen 0; have g1 := bH.frozen 1; simp only [List.getElem?_toArray, List.getElem?_cons_zero, List.getElem?_cons_succ] at z0 z1)); (try (have bH : Blk w2 wr.heap.size _ _ := (Blk.new wr.drew #[Value.bool false, Value.slice none 0 0] 73).below hb3; have lH := bH.lt; have z0 := bH.cell 0; have z1 := bH.cell 1; have g0 := bH.frozen 0; have g1 := bH.frozen 1; simp only [List.getElem?_toArray, List.getElem?_cons_zero, List.getElem?_cons_succ] at z0 z1)))
          | (go_at_call 50; (with_reducible refine (of_pos 2 _ (by decide) (by decide)).mono ?_); rintro e w3 ⟨A4, c4, L4, rfl, hd4, hn4, hv4, hb4⟩; have hr3 : Below wr.heap.size wr _ := (by first | exact hr2.trans (hb4.mono hr2.size) | exact (hr2.alloc hr2.size _).trans (hb4.mono (hr2.alloc hr2.size _).size)); have hd3' := (by first | exact hd3.1.below hb4 | exact (hd3.1.below ((Below.refl _ _).alloc (Nat.le_refl _) _)).below hb4 : DigV w3 (.slice A3 L3.length c3) L3); have bY3 := bY.below hr3; have q3 := hr3.size; have u0 := bY3.cell 0; have u1 := bY3.cell 1; simp only [List.getElem?_toArray, List.getElem?_cons_zero, List.getElem?_cons_succ] at u0 u1; (try (have bH := bH.below hb4; have lH := bH.lt; have z0 := bH.cell 0; have z1 := bH.cell 1; have g0 := bH.frozen 0; have g1 := bH.frozen 1; simp only [List.getElem?_toArray, List.getElem?_cons_zero, List.getElem?_cons_succ] at z0 z1)); (try (have bH : Blk w3 w2.heap.size _ _ := (Blk.new w2 #[Value.bool false, Value.slice none 0 0] 73).below hb4; have lH := bH.lt; have z0 := bH.cell 0; have z1 := bH.cell 1; have g0 := bH.frozen 0; have g1 := bH.frozen 1; simp only [List.getElem?_toArray, List.getElem?_cons_zero, List.getElem?_cons_succ] at z0 z1)))
          | (go_at_call 67; have hl3 : L3.length ≤ 4 := hn3.len4 (by rw [hv3]; omega); have hl4 : L4.length ≤ 4 := hn4.len4 (by rw [hv4]; decide); have hT1 := fun (W : World) (hW : Below w3.heap.size w3 W) => bigTimes_any false false _ _ L3 L4 W (hd3'.below hW) (hd4.1.below hW) hn3.1 hn4.1 (by omega); (first | (with_reducible refine (hT1 _ (Below.refl _ _)).mono ?_) | (with_reducible refine (hT1 _ ((Below.refl _ _).alloc (Nat.le_refl _) _)).mono ?_)); clear hT1; rintro e w5 ⟨m5, v5, L5, rfl, hd5, hn5, hz5, hb5⟩; obtain ⟨A5, c5, rfl, hq5, hQ5⟩ := DigV.open hd5.1; clear hq5 hQ5; have hr5 : Below wr.heap.size wr _ := (by first | exact hr3.trans (hb5.mono hr3.size) | exact (hr3.alloc hr3.size _).trans (hb5.mono (hr3.alloc hr3.size _).size)); have bY5 := bY.below hr5; have q5 := hr5.size; have s0 := bY5.cell 0; have s1 := bY5.cell 1; simp only [List.getElem?_toArray, List.getElem?_cons_zero, List.getElem?_cons_succ] at s0 s1; (try (have bH := bH.below hb5; have lH := bH.lt; have z0 := bH.cell 0; have z1 := bH.cell 1; have g0 := bH.frozen 0; have g1 := bH.frozen 1; simp only [List.getElem?_toArray, List.getElem?_cons_zero, List.getElem?_cons_succ] at z0 z1)); (try (have bH : Blk w5 w3.heap.size _ _ := (Blk.new w3 #[Value.bool false, Value.slice none 0 0] 73).below hb5; have lH := bH.lt; have z0 := bH.cell 0; have z1 := bH.cell 1; have g0 := bH.frozen 0; have g1 := bH.frozen 1; simp only [List.getElem?_toArray, List.getElem?_cons_zero, List.getElem?_cons_succ] at z0 z1)))
          | (go_at_call 67; have hv5 : valD L5 = ((T / 2 * 2 : Nat) : Int) := zOf_abs hn5.1 (by omega) (by rw [hz5]; show valD L3 * valD L4 = _; rw [hv3, hv4]; omega); have hl5 : L5.length ≤ 4 := hn5.len4 (by rw [hv5]; omega); have hT2 := fun (W : World) (hW : Below w5.heap.size w5 W) => bigTimes_any m5 false _ _ L5 L2 W (hd5.1.below hW) (D2.out.below (hb.trans ((hr5.trans (hW.mono hr5.size)).mono hb.size))) hn5.1 N2.out.1 (by omega); (first | (with_reducible refine (hT2 _ (Below.refl _ _)).mono ?_) | (with_reducible refine (hT2 _ ((Below.refl _ _).alloc (Nat.le_refl _) _)).mono ?_)); clear hT2; rintro e w6 ⟨m6, v6, L6, rfl, hd6, hn6, hz6, hb6⟩; obtain ⟨A6, c6, rfl, hq6, hQ6⟩ := DigV.open hd6.1; clear hq6 hQ6; have hr6 : Below wr.heap.size wr _ := (by first | exact hr5.trans (hb6.mono hr5.size) | exact (hr5.alloc hr5.size _).trans (hb6.mono (hr5.alloc hr5.size _).size)); have bY6 := bY.below hr6; have q6 := hr6.size; have v0 := bY6.cell 0; have v1 := bY6.cell 1; simp only [List.getElem?_toArray, List.getElem?_cons_zero, List.getElem?_cons_succ] at v0 v1; (try (have bH := bH.below hb6; have lH := bH.lt; have z0 := bH.cell 0; have z1 := bH.cell 1; have g0 := bH.frozen 0; have g1 := bH.frozen 1; simp only [List.getElem?_toArray, List.getElem?_cons_zero, List.getElem?_cons_succ] at z0 z1)); (try (have bH : Blk w6 w5.heap.size _ _ := (Blk.new w5 #[Value.bool false, Value.slice none 0 0] 73).below hb6; have lH := bH.lt; have z0 := bH.cell 0; have z1 := bH.cell 1; have g0 := bH.frozen 0; have g1 := bH.frozen 1; simp only [List.getElem?_toArray, List.getElem?_cons_zero, List.getElem?_cons_succ] at z0 z1)))))
        all_goals
          have hv6 : Hid (Norm L6 ∧ valD L6 = ((T / 2 * 2 * Y : Nat) : Int)) := by
            refine ⟨hn6, zOf_abs (m := m6) hn6.1 (by omega) ?_⟩
            rw [hz6, hz5]
            show valD L3 * valD L4 * valD L2 = _
            rw [hv3, hv4, HY.out]
            simp
          go_step
          go_step
          go_meet
          first
            | exact ⟨_, _, _, _, _, rfl, hT.below (hr6.alloc hr6.size _), by omega, Blk.new _ _ _, (hd6.below ((Below.refl _ _).alloc (Nat.le_refl _) _)).more (by omega), hv6⟩
            | exact ⟨_, _, _, _, _, rfl, hT.below ((hr6.setCell (by first | omega | (simp <;> omega)) _).setCell (by first | omega | (simp <;> omega)) _), by omega, by simpa using (bH.set 0 (.bool m6)).set 1 (.slice A6 L6.length c6), ((hd6.set (by first | omega | (simp <;> omega))).set (by first | omega | (simp <;> omega))).more (by first | omega | (simp <;> omega)), hv6⟩
      case rest =>
        obtain ⟨hb, mh, A, c, L, rfl, hT', hhb, bH, HD, HN⟩ := hcut
        clear hT
        obtain ⟨hbw, b1, b2, bX, bY⟩ := id hT'
        have x0 := bX.cell 0
        have x1 := bX.cell 1
        have y0 := bY.cell 0
        have y1 := bY.cell 1
        have z0 := bH.cell 0
        have z1 := bH.cell 1
        have g0 := bH.frozen 0
        have g1 := bH.frozen 1
        simp only [List.getElem?_toArray, List.getElem?_cons_zero, List.getElem?_cons_succ] at x0 x1 y0 y1 z0 z1
        have hTY : T / 2 * 2 * Y ≤ T * Y := Nat.mul_le_mul_right Y (by omega)
        have hlen := ov_len HN.out.1 N2.out.1 HY.out l2 hTb hTY HN.out.2
        by_cases hpar : T % 2 = 1
        · have hpi : (T : Int) % 2 = 1 := by omega
          have hpt : (T : Int).tmod 2 = 1 := by rw [Int.tmod_eq_emod_of_nonneg (by omega)]; exact hpi
          have hTe : T / 2 * 2 * Y + Y = T * Y := by rw [← Nat.succ_mul]; congr 1; omega
          have HTe := Lib.hid hTe
          clear hTe hTY
          by_cases hle : T * Y ≤ X
          · have HLE := Lib.hid (ov_le hle)
            have HG := Lib.hid (HYes.out hle)
            clear hle
            go_wp2_with (first
              | (go_at_call 68; have hA := added_any mh false _ _ L L2 wc HD.out.1 (D2.out.below hbw) HN.out.1 N2.out (by omega) (by omega); (with_reducible refine hA.mono ?_); clear hA; rintro e w7 ⟨v7, L7, rfl, hd7, hn7, hv7, hb7⟩; obtain ⟨A7, c7, rfl, hq7, hQ7⟩ := DigV.open hd7.1; clear hq7 hQ7; have bH7 := bH.below hb7; have hsz7 : wc.heap.size ≤ w7.heap.size := hb7.size; have hlt := bH.lt; have z0 := bH7.cell 0; have z1 := bH7.cell 1; have g0 := bH7.frozen 0; have g1 := bH7.frozen 1; have bHs := (bH7.set 0 (.bool false)).set 1 (.slice A7 L7.length c7); have p0 := bHs.cell 0; have p1 := bHs.cell 1; have x0s := cell_set (h := hb) (p := 1) (u := .slice A7 L7.length c7) (by omega) (cell_set (h := hb) (p := 0) (u := .bool false) (by omega) ((bX.below hb7).cell 0)); have x1s := cell_set (h := hb) (p := 1) (u := .slice A7 L7.length c7) (by omega) (cell_set (h := hb) (p := 0) (u := .bool false) (by omega) ((bX.below hb7).cell 1)); simp only [List.setIfInBounds_toArray, List.set_cons_zero, List.set_cons_succ, List.getElem?_toArray, List.getElem?_cons_zero, List.getElem?_cons_succ] at z0 z1 p0 p1 x0s x1s; have hv7' : valD L7 = ((T * Y : Nat) : Int) := by rw [hv7, HN.out.2, HY.out, ← HTe.out]; simp)
              | (go_at_call 66; have hbs : Below w.heap.size w _ := hbw.trans (hb7.mono hbw.size); have hl7 := ov_len hn7 N2.out.1 HY.out l2 hTb (Nat.le_refl _) hv7'; have hds := (hd7.set (j := 0) (u := .bool false) hlt).set (j := 1) (u := .slice A7 L7.length c7) hlt; have hM := amounts_any false false _ _ L7 L1 _ hds.1 (D1.out.below ((hbs.setCell (by simp; omega) _).setCell (by simp; omega) _)) hn7 N1.out (by omega); (with_reducible refine hM.mono ?_); clear hM; rintro e w8 ⟨rfl, hb8⟩; have hO : ordI (valD L7) (valD L1) ≤ 0 := (by rw [hv7', HX.out]; exact HLE.out); generalize ordI (valD L7) (valD L1) = O at hO ⊢))
            exact ⟨⟨T, j, rfl, bitV_pred j, by omega, HG, (((hT'.below hb7).put hhb _ _).put hhb _ _).below hb8⟩, by simp [intOf]⟩
          · have HLE := Lib.hid (ov_gt (Nat.lt_of_not_le hle))
            have HG := Lib.hid (HNo.out (Nat.lt_of_not_le hle))
            clear hle
            go_wp2_with (first
              | (go_at_call 68; have hA := added_any mh false _ _ L L2 wc HD.out.1 (D2.out.below hbw) HN.out.1 N2.out (by omega) (by omega); (with_reducible refine hA.mono ?_); clear hA; rintro e w7 ⟨v7, L7, rfl, hd7, hn7, hv7, hb7⟩; obtain ⟨A7, c7, rfl, hq7, hQ7⟩ := DigV.open hd7.1; clear hq7 hQ7; have bH7 := bH.below hb7; have hsz7 : wc.heap.size ≤ w7.heap.size := hb7.size; have hlt := bH.lt; have z0 := bH7.cell 0; have z1 := bH7.cell 1; have g0 := bH7.frozen 0; have g1 := bH7.frozen 1; have bHs := (bH7.set 0 (.bool false)).set 1 (.slice A7 L7.length c7); have p0 := bHs.cell 0; have p1 := bHs.cell 1; have x0s := cell_set (h := hb) (p := 1) (u := .slice A7 L7.length c7) (by omega) (cell_set (h := hb) (p := 0) (u := .bool false) (by omega) ((bX.below hb7).cell 0)); have x1s := cell_set (h := hb) (p := 1) (u := .slice A7 L7.length c7) (by omega) (cell_set (h := hb) (p := 0) (u := .bool false) (by omega) ((bX.below hb7).cell 1)); simp only [List.setIfInBounds_toArray, List.set_cons_zero, List.set_cons_succ, List.getElem?_toArray, List.getElem?_cons_zero, List.getElem?_cons_succ] at z0 z1 p0 p1 x0s x1s; have hv7' : valD L7 = ((T * Y : Nat) : Int) := by rw [hv7, HN.out.2, HY.out, ← HTe.out]; simp)
              | (go_at_call 66; have hbs : Below w.heap.size w _ := hbw.trans (hb7.mono hbw.size); have hl7 := ov_len hn7 N2.out.1 HY.out l2 hTb (Nat.le_refl _) hv7'; have hds := (hd7.set (j := 0) (u := .bool false) hlt).set (j := 1) (u := .slice A7 L7.length c7) hlt; have hM := amounts_any false false _ _ L7 L1 _ hds.1 (D1.out.below ((hbs.setCell (by simp; omega) _).setCell (by simp; omega) _)) hn7 N1.out (by omega); (with_reducible refine hM.mono ?_); clear hM; rintro e w8 ⟨rfl, hb8⟩; have hO : 0 < ordI (valD L7) (valD L1) := (by rw [hv7', HX.out]; exact HLE.out); generalize ordI (valD L7) (valD L1) = O at hO ⊢))
            exact ⟨⟨Q, j, rfl, bitV_pred j, by omega, HG, (((hT'.below hb7).put hhb _ _).put hhb _ _).below hb8⟩, by simp [intOf]⟩
        · have hpi : (T : Int) % 2 = 0 := by omega
          have hpt : (T : Int).tmod 2 = 0 := by rw [Int.tmod_eq_emod_of_nonneg (by omega)]; exact hpi
          have hTe : T / 2 * 2 = T := by omega
          have hv7' : Hid (valD L = ((T * Y : Nat) : Int)) := by unfold Hid; rw [HN.out.2, hTe]
          clear hTe hTY
          by_cases hle : T * Y ≤ X
          · have HLE := Lib.hid (ov_le hle)
            have HG := Lib.hid (HYes.out hle)
            clear hle
            go_wp2_with (go_at_call 66; have hM := amounts_any mh false _ _ L L1 wc HD.out.1 (D1.out.below hbw) HN.out.1 N1.out (by omega); (with_reducible refine hM.mono ?_); clear hM; rintro e w8 ⟨rfl, hb8⟩; have hO : ordI (valD L) (valD L1) ≤ 0 := (by rw [hv7'.out, HX.out]; exact HLE.out); generalize ordI (valD L) (valD L1) = O at hO ⊢)
            exact ⟨⟨T, j, rfl, bitV_pred j, by omega, HG, hT'.below hb8⟩, by simp [intOf]⟩
          · have HLE := Lib.hid (ov_gt (Nat.lt_of_not_le hle))
            have HG := Lib.hid (HNo.out (Nat.lt_of_not_le hle))
            clear hle
            go_wp2_with (go_at_call 66; have hM := amounts_any mh false _ _ L L1 wc HD.out.1 (D1.out.below hbw) HN.out.1 N1.out (by omega); (with_reducible refine hM.mono ?_); clear hM; rintro e w8 ⟨rfl, hb8⟩; have hO : 0 < ordI (valD L) (valD L1) := (by rw [hv7'.out, HX.out]; exact HLE.out); generalize ordI (valD L) (valD L1) = O at hO ⊢)
            exact ⟨⟨Q, j, rfl, bitV_pred j, by omega, HG, hT'.below hb8⟩, by simp [intOf]⟩
    | zero =>
      have hdone := hI.out.done hY0
      have hQb : (Q : Int) ≤ 18446744073709551615 := by have := hdone.1; omega
      have hQY : Q * Y ≤ X := hdone.2.1
      have HDone := Lib.hid hdone.2.2
      have hBG : Hid (∀ w' : World, Calls Tryz.prog 96 #[.int .u64 (Q : Int)] w' fun e w'' => ∃ A c L, e = .returned (.agg #[.bool false, .slice A L.length c]) ∧ DigB w'' w'.heap.size (.slice A L.length c) L ∧ Norm L ∧ valD L = (Q : Int) ∧ Below w'.heap.size w' w'') := fun w' => word_any _ w' (by omega) hQb
      have HQY := Lib.hid hQY
      clear hI hdone hQY
      unfold bitV
      go_upto_region 13 with fail
      go_cut [12] from 48 (fun p wz => ∃ (hb : Nat) (A : Option Addr) (c : Nat) (L : List Int), p = .pointer (some ⟨hb, 0, none⟩) ∧ OvW w wz m1 m2 (.slice A1 L1.length c1) (.slice A2 L2.length c2) ∧ w.heap.size + 4 ≤ hb ∧ Blk wz hb #[.bool false, .slice A L.length c] 73 ∧ Hid (DigB wz (w.heap.size + 4) (.slice A L.length c) L) ∧ Hid (Norm L ∧ valD L = ((X - Q * Y : Nat) : Int)))
      case first =>
        obtain ⟨hb, b1, b2, bX, bY⟩ := id hT
        have y0 := bX.cell 0
        have y1 := bX.cell 1
        have y2 := bY.cell 0
        have y3 := bY.cell 1
        simp only [List.getElem?_toArray, List.getElem?_cons_zero, List.getElem?_cons_succ] at y0 y1 y2 y3
        have hr1 := (Below.refl wr.heap.size wr).drew
        have hwz : w.heap.size + 4 ≤ wr.heap.size := by have := bY.lt; omega
        go_region_held3 (fun w' => w'.cell? ⟨w.heap.size + 1 + 1, 0, none⟩ = some (.bool false) ∧ w'.cell? ⟨w.heap.size + 1 + 1, 1, none⟩ = some (.slice A1 L1.length c1) ∧ w'.cell? ⟨w.heap.size + 1 + 1 + 1, 0, none⟩ = some (.bool false) ∧ w'.cell? ⟨w.heap.size + 1 + 1 + 1, 1, none⟩ = some (.slice A2 L2.length c2)) (first | exact ⟨v0, v1, v2, v3⟩ | exact ⟨cell_al v0, cell_al v1, cell_al v2, cell_al v3⟩ | exact ⟨u0, u1, u2, u3⟩ | exact ⟨cell_al u0, cell_al u1, cell_al u2, cell_al u3⟩ | exact ⟨t0, t1, t2, t3⟩ | exact ⟨cell_al t0, cell_al t1, cell_al t2, cell_al t3⟩ | exact ⟨s0, s1, s2, s3⟩ | exact ⟨cell_al s0, cell_al s1, cell_al s2, cell_al s3⟩ | exact ⟨y0, y1, y2, y3⟩ | exact ⟨cell_al y0, cell_al y1, cell_al y2, cell_al y3⟩ | exact ⟨cell_set (by omega) (cell_set (by omega) v0), cell_set (by omega) (cell_set (by omega) v1), cell_set (by omega) (cell_set (by omega) v2), cell_set (by omega) (cell_set (by omega) v3)⟩ | exact ⟨cell_set (by omega) (cell_set (by omega) (cell_al v0)), cell_set (by omega) (cell_set (by omega) (cell_al v1)), cell_set (by omega) (cell_set (by omega) (cell_al v2)), cell_set (by omega) (cell_set (by omega) (cell_al v3))⟩) ((first
          | (go_at_call 96; (with_reducible refine (hBG.out _).mono ?_); rintro e w2 ⟨A3, c3, L3, rfl, hd3, hn3, hv3, hb3⟩; have hr2 : Below wr.heap.size wr _ := (by first | exact hr1.trans (hb3.mono hr1.size) | exact (hr1.alloc hr1.size _).trans (hb3.mono (hr1.alloc hr1.size _).size)); have qhr2 := hr2.size; have bXhr2 := bX.below hr2; have bYhr2 := bY.below hr2; have s0 := bXhr2.cell 0; have s1 := bXhr2.cell 1; have s2 := bYhr2.cell 0; have s3 := bYhr2.cell 1; simp only [List.getElem?_toArray, List.getElem?_cons_zero, List.getElem?_cons_succ] at s0 s1 s2 s3; (try (have bH := bH.below hb3; have lH := bH.lt; have z0 := bH.cell 0; have z1 := bH.cell 1; have g0 := bH.frozen 0; have g1 := bH.frozen 1; simp only [List.getElem?_toArray, List.getElem?_cons_zero, List.getElem?_cons_succ] at z0 z1)); (try (have bH : Blk w2 wr.heap.size _ _ := (Blk.new wr.drew #[Value.bool false, Value.slice none 0 0] 73).below hb3; have lH := bH.lt; have z0 := bH.cell 0; have z1 := bH.cell 1; have g0 := bH.frozen 0; have g1 := bH.frozen 1; simp only [List.getElem?_toArray, List.getElem?_cons_zero, List.getElem?_cons_succ] at z0 z1)))
          | (go_at_call 67; have hl3 : L3.length ≤ 4 := hn3.len4 (by rw [hv3]; omega); have hT1 := fun (W : World) (hW : Below w2.heap.size w2 W) => times_ff _ _ L3 L2 W (hd3.1.below hW) (D2.out.below (hb.trans ((hr2.trans (hW.mono hr2.size)).mono hb.size))) hn3.1 N2.out.1 (by omega); (first | (with_reducible refine (hT1 _ (Below.refl _ _)).mono ?_) | (with_reducible refine (hT1 _ ((Below.refl _ _).alloc (Nat.le_refl _) _)).mono ?_)); clear hT1; rintro e w3 ⟨A5, c5, L5, rfl, hd5, hn5, hv5, hb5⟩; have hr3 : Below wr.heap.size wr _ := (by first | exact hr2.trans (hb5.mono hr2.size) | exact (hr2.alloc hr2.size _).trans (hb5.mono (hr2.alloc hr2.size _).size)); have qhr3 := hr3.size; have bXhr3 := bX.below hr3; have bYhr3 := bY.below hr3; have t0 := bXhr3.cell 0; have t1 := bXhr3.cell 1; have t2 := bYhr3.cell 0; have t3 := bYhr3.cell 1; simp only [List.getElem?_toArray, List.getElem?_cons_zero, List.getElem?_cons_succ] at t0 t1 t2 t3; (try (have bH := bH.below hb5; have lH := bH.lt; have z0 := bH.cell 0; have z1 := bH.cell 1; have g0 := bH.frozen 0; have g1 := bH.frozen 1; simp only [List.getElem?_toArray, List.getElem?_cons_zero, List.getElem?_cons_succ] at z0 z1)); (try (have bH : Blk w3 w2.heap.size _ _ := (Blk.new w2 #[Value.bool false, Value.slice none 0 0] 73).below hb5; have lH := bH.lt; have z0 := bH.cell 0; have z1 := bH.cell 1; have g0 := bH.frozen 0; have g1 := bH.frozen 1; simp only [List.getElem?_toArray, List.getElem?_cons_zero, List.getElem?_cons_succ] at z0 z1)))
          | (go_at_call 94; have hl5 : L5.length ≤ 1004 := ov_len hn5 N2.out.1 HY.out l2 (T := Q) (by omega) (Nat.le_refl _) (by rw [hv5, hv3, HY.out]; simp); have hT2 := fun (W : World) (hW : Below w3.heap.size w3 W) => trimmed_any A5 c5 L5 W (hd5.1.below hW) hn5.1 (by omega); (first | (with_reducible refine (hT2 _ (Below.refl _ _)).mono ?_) | (with_reducible refine (hT2 _ ((Below.refl _ _).alloc (Nat.le_refl _) _)).mono ?_)); clear hT2; rintro e w4 ⟨n, hn, rfl, hnt, hvt, hb6⟩; have hd5' := (by first | exact hd5.1.below hb6 | exact (hd5.1.below ((Below.refl _ _).alloc (Nat.le_refl _) _)).below hb6 : DigV w4 (.slice A5 L5.length c5) L5); have hr4 : Below wr.heap.size wr _ := (by first | exact hr3.trans (hb6.mono hr3.size) | exact (hr3.alloc hr3.size _).trans (hb6.mono (hr3.alloc hr3.size _).size)); have qhr4 := hr4.size; have bXhr4 := bX.below hr4; have bYhr4 := bY.below hr4; have u0 := bXhr4.cell 0; have u1 := bXhr4.cell 1; have u2 := bYhr4.cell 0; have u3 := bYhr4.cell 1; simp only [List.getElem?_toArray, List.getElem?_cons_zero, List.getElem?_cons_succ] at u0 u1 u2 u3; (try (have bH := bH.below hb6; have lH := bH.lt; have z0 := bH.cell 0; have z1 := bH.cell 1; have g0 := bH.frozen 0; have g1 := bH.frozen 1; simp only [List.getElem?_toArray, List.getElem?_cons_zero, List.getElem?_cons_succ] at z0 z1)); (try (have bH : Blk w4 w3.heap.size _ _ := (Blk.new w3 #[Value.bool false, Value.slice none 0 0] 73).below hb6; have lH := bH.lt; have z0 := bH.cell 0; have z1 := bH.cell 1; have g0 := bH.frozen 0; have g1 := bH.frozen 1; simp only [List.getElem?_toArray, List.getElem?_cons_zero, List.getElem?_cons_succ] at z0 z1)))
          | (go_at_call 95; have hv6 : valD (L5.take n) = ((Q * Y : Nat) : Int) := (by rw [hvt, hv5, hv3, HY.out]; simp); have hT3 := fun (W : World) (hW : Below w4.heap.size w4 W) => less_any false false _ _ L1 (L5.take n) W (D1.out.below (hb.trans ((hr4.trans (hW.mono hr4.size)).mono hb.size))) (DigV.cut hd5' n hn hW) N1.out.1 hnt.1 (by omega) (hnt.len_of (by have := (valD_bound N1.out.1).2; have := HX.out; have := HQY.out; omega)) (by have := HX.out; have := HQY.out; omega); (first | (with_reducible refine (hT3 _ (Below.refl _ _)).mono ?_) | (with_reducible refine (hT3 _ ((Below.refl _ _).alloc (Nat.le_refl _) _)).mono ?_)); clear hT3; rintro e w6 ⟨v6, L6, rfl, hd6, hn6, hv7, hb7⟩; obtain ⟨A6, c6, rfl, hq6, hQ6⟩ := DigV.open hd6.1; clear hq6 hQ6; have hr6 : Below wr.heap.size wr _ := (by first | exact hr4.trans (hb7.mono hr4.size) | exact (hr4.alloc hr4.size _).trans (hb7.mono (hr4.alloc hr4.size _).size)); have qhr6 := hr6.size; have bXhr6 := bX.below hr6; have bYhr6 := bY.below hr6; have v0 := bXhr6.cell 0; have v1 := bXhr6.cell 1; have v2 := bYhr6.cell 0; have v3 := bYhr6.cell 1; simp only [List.getElem?_toArray, List.getElem?_cons_zero, List.getElem?_cons_succ] at v0 v1 v2 v3; (try (have bH := bH.below hb7; have lH := bH.lt; have z0 := bH.cell 0; have z1 := bH.cell 1; have g0 := bH.frozen 0; have g1 := bH.frozen 1; simp only [List.getElem?_toArray, List.getElem?_cons_zero, List.getElem?_cons_succ] at z0 z1)); (try (have bH : Blk w6 w4.heap.size _ _ := (Blk.new w4 #[Value.bool false, Value.slice none 0 0] 73).below hb7; have lH := bH.lt; have z0 := bH.cell 0; have z1 := bH.cell 1; have g0 := bH.frozen 0; have g1 := bH.frozen 1; simp only [List.getElem?_toArray, List.getElem?_cons_zero, List.getElem?_cons_succ] at z0 z1)))))
        all_goals
          have hv8 : Hid (Norm L6 ∧ valD L6 = ((X - Q * Y : Nat) : Int)) := by
            refine ⟨hn6, ?_⟩
            have h1 := HX.out
            have h2 := HQY.out
            rw [hv7, hv6]
            omega
          go_step
          go_step
          go_meet
          first
            | exact ⟨_, _, _, _, rfl, hT.below (hr6.alloc hr6.size _), by omega, Blk.new _ _ _, (hd6.below ((Below.refl _ _).alloc (Nat.le_refl _) _)).more (by omega), hv8⟩
            | exact ⟨_, _, _, _, rfl, hT.below ((hr6.setCell (by first | omega | (simp <;> omega)) _).setCell (by first | omega | (simp <;> omega)) _), by omega, by simpa using (bH.set 0 (.bool false)).set 1 (.slice A6 L6.length c6), ((hd6.set (by first | omega | (simp <;> omega))).set (by first | omega | (simp <;> omega))).more (by first | omega | (simp <;> omega)), hv8⟩
      case rest =>
        obtain ⟨hb, A, c, L, rfl, hT', hhb, bH, HD, HN⟩ := hcut
        clear hT
        obtain ⟨hbw, b1, b2, bX, bY⟩ := id hT'
        have y0 := bY.cell 0
        have y1 := bY.cell 1
        have z0 := bH.cell 0
        have z1 := bH.cell 1
        simp only [List.getElem?_toArray, List.getElem?_cons_zero, List.getElem?_cons_succ] at y0 y1 z0 z1
        have hlen : L.length ≤ 5000 := by
          have h1 := HN.out.1.len_of (n := L1.length) (by have := (valD_bound N1.out.1).2; have := HX.out; have := HN.out.2; omega)
          omega
        have hz : (zOf m1 L1).tdiv (zOf m2 L2) = if (m1 != m2) then -((X / Y : Nat) : Int) else ((X / Y : Nat) : Int) := by
          rw [← ov_tdiv]
          unfold zOf
          rw [HX.out, HY.out]
        by_cases hlt : X - Q * Y < Y
        · have hq := HDone.out.1 hlt
          rw [hq] at hz
          have HZ := Lib.hid hz
          clear hz hq
          have HL : Hid (ordI ((X - Q * Y : Nat) : Int) (Y : Int) < 0) := by unfold Hid ordI; rw [if_pos (by omega)]; decide
          clear hlt
          obtain ⟨R, hR⟩ : ∃ R, (if fitsB ((zOf m1 L1).tdiv (zOf m2 L2)) then (zOf m1 L1).tdiv (zOf m2 L2) else 0) = R := ⟨_, rfl⟩
          obtain ⟨F, hF⟩ : ∃ F, fitsB ((zOf m1 L1).tdiv (zOf m2 L2)) = F := ⟨_, rfl⟩
          have hRF := Lib.hid (And.intro hR hF)
          clear hR hF
          cases m1 <;> cases m2
          all_goals
            go_wp2_with (first
              | (go_at_call 66; have hM := amounts_any false false _ _ L L2 wc HD.out.1 (D2.out.below hbw) HN.out.1 N2.out hlen; (with_reducible refine hM.mono ?_); clear hM; rintro e w8 ⟨rfl, hb8⟩; have hO : ordI (valD L) (valD L2) < 0 := (by rw [HN.out.2, HY.out]; exact HL.out); generalize ordI (valD L) (valD L2) = O at hO ⊢)
              | (go_at_call 96; (with_reducible refine (hBG.out _).mono ?_); rintro e w9 ⟨A9, c9, L9, rfl, hd9, hn9, hv9, hb9⟩; have hb89 := hb8.trans (hb9.mono hb8.size); have bA := (b1.below hb89).alloc (.cells #[.bool false, .slice A9 L9.length c9] 73); have bB := (b2.below hb89).alloc (.cells #[.bool false, .slice A9 L9.length c9] 73); have p0 := bA.cell 0; have r0 := bB.cell 0; simp only [List.getElem?_toArray, List.getElem?_cons_zero] at p0 r0; have hl9 : L9.length ≤ 5000 := Nat.le_trans (hn9.len4 (by rw [hv9]; omega)) (by decide))
              | (go_at_call 47; have hF := fun (m : Bool) (o : Obj) => fits_any m _ L9 (w9.alloc o) (hd9.1.below ((Below.refl _ _).alloc (Nat.le_refl _) o)) hn9 hl9; (with_reducible refine (hF _ _).mono ?_); clear hF; rintro e w10 ⟨rfl, hb10⟩; have hzq := ov_sign HZ.out hv9; (first | rw [show zOf false L9 = _ from hzq] | rw [show zOf (decide (0 < L9.length)) L9 = _ from hzq]); rw [hRF.out.1, hRF.out.2]))
            refine bodyPost_ret (v := .tuple #[.int .i64 R, .bool F]) (by simp [results, Tryz.results70, go_sem]) rfl ⟨by rw [hRF.out.1, hRF.out.2], ?_⟩
            exact hbw.trans (((hb89.alloc hb89.size _).trans (hb10.mono (hb89.alloc hb89.size _).size)).mono hbw.size)
        · have hq := HDone.out.2 (by omega)
          have HL : Hid (0 ≤ ordI ((X - Q * Y : Nat) : Int) (Y : Int)) := by unfold Hid ordI; split <;> (try split) <;> omega
          have HR : Hid (fitsB ((zOf m1 L1).tdiv (zOf m2 L2)) = false) := by
            unfold Hid fitsB
            rw [hz, decide_eq_false_iff_not]
            generalize X / Y = q at hq ⊢
            split <;> omega
          clear hlt hz hq
          go_wp2_with (go_at_call 66; have hM := amounts_any false false _ _ L L2 wc HD.out.1 (D2.out.below hbw) HN.out.1 N2.out hlen; (with_reducible refine hM.mono ?_); clear hM; rintro e w8 ⟨rfl, hb8⟩; have hO : 0 ≤ ordI (valD L) (valD L2) := (by rw [HN.out.2, HY.out]; exact HL.out); generalize ordI (valD L) (valD L2) = O at hO ⊢)
          refine bodyPost_ret (v := .tuple #[.int .i64 0, .bool false]) (by simp [results, Tryz.results70, go_sem]) rfl ⟨by rw [HR.out]; rfl, ?_⟩
          exact hbw.trans (hb8.mono hbw.size)

end Go.Proofs.YtippffjhkinfoaaGreatDoor
