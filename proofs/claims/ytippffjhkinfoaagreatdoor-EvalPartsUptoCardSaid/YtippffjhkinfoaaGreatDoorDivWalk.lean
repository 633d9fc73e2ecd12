/-
  The walk of math/bits.Div64 where the upper word is not 0, over what each operation makes.
-/
import Derived.Test.YtippffjhkinfoaaGreatDoorNum
import Derived.Test.YtippffjhkinfoaaGreatDoorShelf2
import Derived.Test.YtippffjhkinfoaaGreatDoorDivTold
import Derived.Deep.LoopGhost
namespace Go.Proofs.YtippffjhkinfoaaGreatDoor
open Go.RowKit

set_option linter.unusedVariables false in
set_option maxHeartbeats 16000000 in
set_option maxRecDepth 100000 in
theorem div64_core (hi lo y s Y y1 y0 H2 L2 U L d1 d0 qa pa ra Q1 A0 A1 A2 R1 qb pb rb Q0 B1 Qt A3 A4 A5 R0 Rem : Nat) (w : World)
    (HZ : Hid (∀ w, Calls Tryz.prog 135 #[.int .u64 (y : Int)] w fun e w' => e = .returned (.int .i64 (s : Int)) ∧ w' = w))
    (b1 : (0 : Int) < (hi : Int)) (b2 : (hi : Int) < (y : Int)) (b3 : ((y : Int) == 0) = false) (b4 : ((hi : Int) == 0) = false) (b5 : (0 : Int) ≤ (s : Int)) (b6 : (s : Int) ≤ 64)
    (b7 : (1 : Int) ≤ (y1 : Int)) (b8 : ((y1 : Int) == 0) = false) (b9 : (U : Int) ≤ 18446744073709551615) (b10 : (R1 : Int) ≤ 18446744073709551615) (b11 : (Y : Int) ≤ 18446744073709551615) (b12 : (L : Int) ≤ 18446744073709551615)
    (D1 : Hid (Dig U d1 Y y1 y0 Q1 R1)) (D0 : Hid (Dig R1 d0 Y y1 y0 Q0 R0)) (I1 : Hid (Inv U d1 Y y1 qa ra)) (I0 : Hid (Inv R1 d0 Y y1 qb rb))
    (E1 : IntKind.u64.wrap ((y : Int) * 2 ^ s) = (Y : Int)) (E2 : (Y : Int) / 4294967296 = (y1 : Int)) (E3 : bits .and .u64 (Y : Int) 4294967295 = (y0 : Int)) (E4 : IntKind.u64.wrap ((hi : Int) * 2 ^ s) = (H2 : Int)) (E5 : (lo : Int) / 2 ^ (64 - s) = (L2 : Int)) (E6 : bits .or .u64 (H2 : Int) (L2 : Int) = (U : Int)) (E7 : IntKind.u64.wrap ((lo : Int) * 2 ^ s) = (L : Int)) (E8 : (L : Int) / 4294967296 = (d1 : Int)) (E9 : bits .and .u64 (L : Int) 4294967295 = (d0 : Int)) (E10 : (U : Int) / (y1 : Int) = (qa : Int)) (E10b : IntKind.u64.wrap (qa : Int) = (qa : Int)) (E11 : IntKind.u64.wrap ((qa : Int) * (y1 : Int)) = (pa : Int)) (E12 : IntKind.u64.wrap ((U : Int) - (pa : Int)) = (ra : Int)) (F1 : IntKind.u64.wrap ((U : Int) * 4294967296) = (A0 : Int)) (F2 : IntKind.u64.wrap ((A0 : Int) + (d1 : Int)) = (A1 : Int)) (F3 : IntKind.u64.wrap ((Q1 : Int) * (Y : Int)) = (A2 : Int)) (F4 : IntKind.u64.wrap ((A1 : Int) - (A2 : Int)) = (R1 : Int)) (E13 : (R1 : Int) / (y1 : Int) = (qb : Int)) (E13b : IntKind.u64.wrap (qb : Int) = (qb : Int)) (E14 : IntKind.u64.wrap ((qb : Int) * (y1 : Int)) = (pb : Int)) (E15 : IntKind.u64.wrap ((R1 : Int) - (pb : Int)) = (rb : Int)) (G1 : IntKind.u64.wrap ((Q1 : Int) * 4294967296) = (B1 : Int)) (G2 : IntKind.u64.wrap ((B1 : Int) + (Q0 : Int)) = (Qt : Int)) (G3 : IntKind.u64.wrap ((R1 : Int) * 4294967296) = (A3 : Int)) (G4 : IntKind.u64.wrap ((A3 : Int) + (d0 : Int)) = (A4 : Int)) (G5 : IntKind.u64.wrap ((Q0 : Int) * (Y : Int)) = (A5 : Int)) (G6 : IntKind.u64.wrap ((A4 : Int) - (A5 : Int)) = (R0 : Int)) (G7 : (R0 : Int) / 2 ^ s = (Rem : Int)) :
    Calls Tryz.prog 131 #[.int .u64 (hi : Int), .int .u64 (lo : Int), .int .u64 (y : Int)] w fun e w' => e = .returned (.tuple #[.int .u64 (Qt : Int), .int .u64 (Rem : Int)]) ∧ Below w.heap.size w w' := by
  have c1 : (0 : Int) ≤ (U : Int) := Int.natCast_nonneg _
  have c2 : (0 : Int) ≤ (R1 : Int) := Int.natCast_nonneg _
  have c3 : (0 : Int) ≤ (Y : Int) := Int.natCast_nonneg _
  have c4 : (0 : Int) ≤ (L : Int) := Int.natCast_nonneg _
  go_enter Tryz.func131, Tryz.ntmps131
  go_wp2_with (go_at_call 135; (with_reducible refine (HZ.out _).mono ?_); rintro e w' ⟨rfl, rfl⟩)
  go_loop [15, 16] (fun qv rv => ∃ q r : Nat, qv = .int .u64 (q : Int) ∧ rv = .int .u64 (r : Int) ∧ Hid (Inv U d1 Y y1 q r)) (fun qv _ => (intOf qv).toNat)
  case atStart => exact ⟨_, _, rfl, rfl, I1⟩
  case round =>
    obtain ⟨q1, r, rfl, rfl, hI⟩ := hrel
    have iq : (0 : Int) ≤ (q1 : Int) := Int.natCast_nonneg _
    have ir : (0 : Int) ≤ (r : Int) := Int.natCast_nonneg _
    have hqb : q1 ≤ 4294967297 := hI.out.2.2.1
    have hrb : r < 4294967296 := hI.out.2.2.2
    have yl := D1.out.h1'
    have dl := D1.out.hd
    obtain ⟨M, hM⟩ : ∃ M, M = q1 * y0 := ⟨_, rfl⟩
    obtain ⟨T1, hT1⟩ : ∃ T1, T1 = 4294967296 * r := ⟨_, rfl⟩
    obtain ⟨T2, hT2⟩ : ∃ T2, T2 = T1 + d1 := ⟨_, rfl⟩
    have m1 : M ≤ 4294967297 * 4294967295 := by rw [hM]; exact Nat.mul_le_mul hqb (by have := D1.out.h0; omega)
    have em : IntKind.u64.wrap ((q1 : Int) * (y0 : Int)) = (M : Int) := wr_mul q1 y0 _ hM.symm (by omega)
    have et : IntKind.u64.wrap (4294967296 * (r : Int)) = (T1 : Int) := wr_in _ _ (by omega) (by omega)
    have et2 : IntKind.u64.wrap ((T1 : Int) + (d1 : Int)) = (T2 : Int) := wr_in _ _ (by omega) (by omega)
    have HT : Hid (T2 = 4294967296 * r + d1) := by unfold Hid; omega
    have HM := Lib.hid hM
    clear hM hT1 hT2 m1
    by_cases g : 4294967296 ≤ q1
    · have gi : (4294967296 : Int) ≤ (q1 : Int) := by omega
      obtain ⟨q, hq⟩ : ∃ q, q1 = q + 1 := ⟨q1 - 1, by omega⟩
      have HQ1 := Lib.hid hq
      have hI2 := hI
      rw [hq] at hI2
      replace hI := hI2
      clear hq hI2
      have GG := Lib.hid g
      clear g
      have hp := D1.out.pos hI.out (.inl (by have := GG.out; have := HQ1.out; omega))
      have hs := Lib.hid (D1.out.step hI.out hp)
      have ed : IntKind.u64.wrap ((q1 : Int) - 1) = (q : Int) := wr_in _ _ (by have := HQ1.out; omega) (by have := HQ1.out; omega)
      obtain ⟨r1, hr1⟩ : ∃ r1, r1 = r + y1 := ⟨_, rfl⟩
      have HR1 := Lib.hid hr1
      have ea : IntKind.u64.wrap ((r : Int) + (y1 : Int)) = (r1 : Int) := wr_in _ _ (by omega) (by omega)
      clear hr1
      by_cases hr : 4294967296 ≤ r1
      · have hri : (4294967296 : Int) ≤ (r1 : Int) := by omega
        have HE : Hid (q = Q1) := D1.out.brk hs.out (by have := HR1.out; omega)
        clear hr hp
        go_wp2
        obtain rfl : Q1 = q := HE.out.symm
        clear em et et2 HT HM hI iq ir hqb hrb yl dl gi hri ed ea hs HR1 HQ1 GG
        go_wp2
        go_loop [18, 16] (fun qv rv => ∃ q r : Nat, qv = .int .u64 (q : Int) ∧ rv = .int .u64 (r : Int) ∧ Hid (Inv R1 d0 Y y1 q r)) (fun qv _ => (intOf qv).toNat)
        case atStart => exact ⟨_, _, rfl, rfl, I0⟩
        case round =>
          obtain ⟨q1, r, rfl, rfl, hI⟩ := hrel
          have iq : (0 : Int) ≤ (q1 : Int) := Int.natCast_nonneg _
          have ir : (0 : Int) ≤ (r : Int) := Int.natCast_nonneg _
          have hqb : q1 ≤ 4294967297 := hI.out.2.2.1
          have hrb : r < 4294967296 := hI.out.2.2.2
          have yl := D0.out.h1'
          have dl := D0.out.hd
          obtain ⟨M, hM⟩ : ∃ M, M = q1 * y0 := ⟨_, rfl⟩
          obtain ⟨T1, hT1⟩ : ∃ T1, T1 = 4294967296 * r := ⟨_, rfl⟩
          obtain ⟨T2, hT2⟩ : ∃ T2, T2 = T1 + d0 := ⟨_, rfl⟩
          have m1 : M ≤ 4294967297 * 4294967295 := by rw [hM]; exact Nat.mul_le_mul hqb (by have := D0.out.h0; omega)
          have em : IntKind.u64.wrap ((q1 : Int) * (y0 : Int)) = (M : Int) := wr_mul q1 y0 _ hM.symm (by omega)
          have et : IntKind.u64.wrap (4294967296 * (r : Int)) = (T1 : Int) := wr_in _ _ (by omega) (by omega)
          have et2 : IntKind.u64.wrap ((T1 : Int) + (d0 : Int)) = (T2 : Int) := wr_in _ _ (by omega) (by omega)
          have HT : Hid (T2 = 4294967296 * r + d0) := by unfold Hid; omega
          have HM := Lib.hid hM
          clear hM hT1 hT2 m1
          by_cases g : 4294967296 ≤ q1
          · have gi : (4294967296 : Int) ≤ (q1 : Int) := by omega
            obtain ⟨q, hq⟩ : ∃ q, q1 = q + 1 := ⟨q1 - 1, by omega⟩
            have HQ1 := Lib.hid hq
            have hI2 := hI
            rw [hq] at hI2
            replace hI := hI2
            clear hq hI2
            have GG := Lib.hid g
            clear g
            have hp := D0.out.pos hI.out (.inl (by have := GG.out; have := HQ1.out; omega))
            have hs := Lib.hid (D0.out.step hI.out hp)
            have ed : IntKind.u64.wrap ((q1 : Int) - 1) = (q : Int) := wr_in _ _ (by have := HQ1.out; omega) (by have := HQ1.out; omega)
            obtain ⟨r1, hr1⟩ : ∃ r1, r1 = r + y1 := ⟨_, rfl⟩
            have HR1 := Lib.hid hr1
            have ea : IntKind.u64.wrap ((r : Int) + (y1 : Int)) = (r1 : Int) := wr_in _ _ (by omega) (by omega)
            clear hr1
            by_cases hr : 4294967296 ≤ r1
            · have hri : (4294967296 : Int) ≤ (r1 : Int) := by omega
              have HE : Hid (q = Q0) := D0.out.brk hs.out (by have := HR1.out; omega)
              clear hr hp
              go_wp2
              obtain rfl : Q0 = q := HE.out.symm
              clear em et et2 HT HM hI iq ir hqb hrb yl dl gi hri ed ea hs HR1 HQ1 GG
              go_ret2
              exact ⟨ret_u64_2 G2 (by rw [G5, G6, G7]), Below.refl _ _⟩
            · have hri : decide ((4294967296 : Int) ≤ (r1 : Int)) = false := by rw [decide_eq_false_iff_not]; omega
              have HN : Hid (Inv R1 d0 Y y1 q r1) := ⟨by have := hs.out.1; have := HR1.out; omega, hs.out.2.1, by have := hs.out.2.2; omega, by omega⟩
              clear hr hp hqb hrb yl dl
              go_wp2
              go_round
              case rel => exact ⟨q, r1, rfl, rfl, HN⟩
              case measure => simp [intOf]; have := HQ1.out; omega
          · by_cases c : T2 < M
            · have gi : decide ((4294967296 : Int) ≤ (q1 : Int)) = false := by rw [decide_eq_false_iff_not]; omega
              have ci : (T2 : Int) < (M : Int) := by omega
              have hq0 : 0 < q1 := by
                rcases Nat.eq_zero_or_pos q1 with h | h
                · have := HM.out; rw [h, Nat.zero_mul] at this; omega
                · exact h
              obtain ⟨q, hq⟩ : ∃ q, q1 = q + 1 := ⟨q1 - 1, by omega⟩
              have HQ1 := Lib.hid hq
              have hI2 := hI
              rw [hq] at hI2
              replace hI := hI2
              have HC2 : Hid (4294967296 * r + d0 < (q + 1) * y0) := by unfold Hid; rw [← hq, ← HM.out, ← HT.out]; exact c
              clear hq hI2 g hq0
              have hp := D0.out.pos hI.out (.inr HC2.out)
              have hs := Lib.hid (D0.out.step hI.out hp)
              have ed : IntKind.u64.wrap ((q1 : Int) - 1) = (q : Int) := wr_in _ _ (by have := HQ1.out; omega) (by have := HQ1.out; omega)
              obtain ⟨r1, hr1⟩ : ∃ r1, r1 = r + y1 := ⟨_, rfl⟩
              have HR1 := Lib.hid hr1
              have ea : IntKind.u64.wrap ((r : Int) + (y1 : Int)) = (r1 : Int) := wr_in _ _ (by omega) (by omega)
              clear hr1
              by_cases hr : 4294967296 ≤ r1
              · have hri : (4294967296 : Int) ≤ (r1 : Int) := by omega
                have HE : Hid (q = Q0) := D0.out.brk hs.out (by have := HR1.out; omega)
                clear hr hp
                go_wp2
                obtain rfl : Q0 = q := HE.out.symm
                clear em et et2 HT HM hI iq ir hqb hrb yl dl gi hri ed ea hs HR1 HQ1 HC2 ci c
                go_ret2
                exact ⟨ret_u64_2 G2 (by rw [G5, G6, G7]), Below.refl _ _⟩
              · have hri : decide ((4294967296 : Int) ≤ (r1 : Int)) = false := by rw [decide_eq_false_iff_not]; omega
                have HN : Hid (Inv R1 d0 Y y1 q r1) := ⟨by have := hs.out.1; have := HR1.out; omega, hs.out.2.1, by have := hs.out.2.2; omega, by omega⟩
                clear hr hp hqb hrb yl dl
                go_wp2
                go_round
                case rel => exact ⟨q, r1, rfl, rfl, HN⟩
                case measure => simp [intOf]; have := HQ1.out; omega
            · have gi : decide ((4294967296 : Int) ≤ (q1 : Int)) = false := by rw [decide_eq_false_iff_not]; omega
              have ci : ¬ (T2 : Int) < (M : Int) := by omega
              have HE : Hid (q1 = Q0) := D0.out.fin hI.out (by rw [← HM.out, ← HT.out]; exact c)
              clear g
              go_wp2
              obtain rfl : Q0 = q1 := HE.out.symm
              clear em et et2 HT HM hI iq ir hqb hrb yl dl gi ci c
              go_ret2
              exact ⟨ret_u64_2 G2 (by rw [G5, G6, G7]), Below.refl _ _⟩
      · have hri : decide ((4294967296 : Int) ≤ (r1 : Int)) = false := by rw [decide_eq_false_iff_not]; omega
        have HN : Hid (Inv U d1 Y y1 q r1) := ⟨by have := hs.out.1; have := HR1.out; omega, hs.out.2.1, by have := hs.out.2.2; omega, by omega⟩
        clear hr hp hqb hrb yl dl
        go_wp2
        go_round
        case rel => exact ⟨q, r1, rfl, rfl, HN⟩
        case measure => simp [intOf]; have := HQ1.out; omega
    · by_cases c : T2 < M
      · have gi : decide ((4294967296 : Int) ≤ (q1 : Int)) = false := by rw [decide_eq_false_iff_not]; omega
        have ci : (T2 : Int) < (M : Int) := by omega
        have hq0 : 0 < q1 := by
          rcases Nat.eq_zero_or_pos q1 with h | h
          · have := HM.out; rw [h, Nat.zero_mul] at this; omega
          · exact h
        obtain ⟨q, hq⟩ : ∃ q, q1 = q + 1 := ⟨q1 - 1, by omega⟩
        have HQ1 := Lib.hid hq
        have hI2 := hI
        rw [hq] at hI2
        replace hI := hI2
        have HC2 : Hid (4294967296 * r + d1 < (q + 1) * y0) := by unfold Hid; rw [← hq, ← HM.out, ← HT.out]; exact c
        clear hq hI2 g hq0
        have hp := D1.out.pos hI.out (.inr HC2.out)
        have hs := Lib.hid (D1.out.step hI.out hp)
        have ed : IntKind.u64.wrap ((q1 : Int) - 1) = (q : Int) := wr_in _ _ (by have := HQ1.out; omega) (by have := HQ1.out; omega)
        obtain ⟨r1, hr1⟩ : ∃ r1, r1 = r + y1 := ⟨_, rfl⟩
        have HR1 := Lib.hid hr1
        have ea : IntKind.u64.wrap ((r : Int) + (y1 : Int)) = (r1 : Int) := wr_in _ _ (by omega) (by omega)
        clear hr1
        by_cases hr : 4294967296 ≤ r1
        · have hri : (4294967296 : Int) ≤ (r1 : Int) := by omega
          have HE : Hid (q = Q1) := D1.out.brk hs.out (by have := HR1.out; omega)
          clear hr hp
          go_wp2
          obtain rfl : Q1 = q := HE.out.symm
          clear em et et2 HT HM hI iq ir hqb hrb yl dl gi hri ed ea hs HR1 HQ1 HC2 ci c
          go_wp2
          go_loop [18, 16] (fun qv rv => ∃ q r : Nat, qv = .int .u64 (q : Int) ∧ rv = .int .u64 (r : Int) ∧ Hid (Inv R1 d0 Y y1 q r)) (fun qv _ => (intOf qv).toNat)
          case atStart => exact ⟨_, _, rfl, rfl, I0⟩
          case round =>
            obtain ⟨q1, r, rfl, rfl, hI⟩ := hrel
            have iq : (0 : Int) ≤ (q1 : Int) := Int.natCast_nonneg _
            have ir : (0 : Int) ≤ (r : Int) := Int.natCast_nonneg _
            have hqb : q1 ≤ 4294967297 := hI.out.2.2.1
            have hrb : r < 4294967296 := hI.out.2.2.2
            have yl := D0.out.h1'
            have dl := D0.out.hd
            obtain ⟨M, hM⟩ : ∃ M, M = q1 * y0 := ⟨_, rfl⟩
            obtain ⟨T1, hT1⟩ : ∃ T1, T1 = 4294967296 * r := ⟨_, rfl⟩
            obtain ⟨T2, hT2⟩ : ∃ T2, T2 = T1 + d0 := ⟨_, rfl⟩
            have m1 : M ≤ 4294967297 * 4294967295 := by rw [hM]; exact Nat.mul_le_mul hqb (by have := D0.out.h0; omega)
            have em : IntKind.u64.wrap ((q1 : Int) * (y0 : Int)) = (M : Int) := wr_mul q1 y0 _ hM.symm (by omega)
            have et : IntKind.u64.wrap (4294967296 * (r : Int)) = (T1 : Int) := wr_in _ _ (by omega) (by omega)
            have et2 : IntKind.u64.wrap ((T1 : Int) + (d0 : Int)) = (T2 : Int) := wr_in _ _ (by omega) (by omega)
            have HT : Hid (T2 = 4294967296 * r + d0) := by unfold Hid; omega
            have HM := Lib.hid hM
            clear hM hT1 hT2 m1
            by_cases g : 4294967296 ≤ q1
            · have gi : (4294967296 : Int) ≤ (q1 : Int) := by omega
              obtain ⟨q, hq⟩ : ∃ q, q1 = q + 1 := ⟨q1 - 1, by omega⟩
              have HQ1 := Lib.hid hq
              have hI2 := hI
              rw [hq] at hI2
              replace hI := hI2
              clear hq hI2
              have GG := Lib.hid g
              clear g
              have hp := D0.out.pos hI.out (.inl (by have := GG.out; have := HQ1.out; omega))
              have hs := Lib.hid (D0.out.step hI.out hp)
              have ed : IntKind.u64.wrap ((q1 : Int) - 1) = (q : Int) := wr_in _ _ (by have := HQ1.out; omega) (by have := HQ1.out; omega)
              obtain ⟨r1, hr1⟩ : ∃ r1, r1 = r + y1 := ⟨_, rfl⟩
              have HR1 := Lib.hid hr1
              have ea : IntKind.u64.wrap ((r : Int) + (y1 : Int)) = (r1 : Int) := wr_in _ _ (by omega) (by omega)
              clear hr1
              by_cases hr : 4294967296 ≤ r1
              · have hri : (4294967296 : Int) ≤ (r1 : Int) := by omega
                have HE : Hid (q = Q0) := D0.out.brk hs.out (by have := HR1.out; omega)
                clear hr hp
                go_wp2
                obtain rfl : Q0 = q := HE.out.symm
                clear em et et2 HT HM hI iq ir hqb hrb yl dl gi hri ed ea hs HR1 HQ1 GG
                go_ret2
                exact ⟨ret_u64_2 G2 (by rw [G5, G6, G7]), Below.refl _ _⟩
              · have hri : decide ((4294967296 : Int) ≤ (r1 : Int)) = false := by rw [decide_eq_false_iff_not]; omega
                have HN : Hid (Inv R1 d0 Y y1 q r1) := ⟨by have := hs.out.1; have := HR1.out; omega, hs.out.2.1, by have := hs.out.2.2; omega, by omega⟩
                clear hr hp hqb hrb yl dl
                go_wp2
                go_round
                case rel => exact ⟨q, r1, rfl, rfl, HN⟩
                case measure => simp [intOf]; have := HQ1.out; omega
            · by_cases c : T2 < M
              · have gi : decide ((4294967296 : Int) ≤ (q1 : Int)) = false := by rw [decide_eq_false_iff_not]; omega
                have ci : (T2 : Int) < (M : Int) := by omega
                have hq0 : 0 < q1 := by
                  rcases Nat.eq_zero_or_pos q1 with h | h
                  · have := HM.out; rw [h, Nat.zero_mul] at this; omega
                  · exact h
                obtain ⟨q, hq⟩ : ∃ q, q1 = q + 1 := ⟨q1 - 1, by omega⟩
                have HQ1 := Lib.hid hq
                have hI2 := hI
                rw [hq] at hI2
                replace hI := hI2
                have HC2 : Hid (4294967296 * r + d0 < (q + 1) * y0) := by unfold Hid; rw [← hq, ← HM.out, ← HT.out]; exact c
                clear hq hI2 g hq0
                have hp := D0.out.pos hI.out (.inr HC2.out)
                have hs := Lib.hid (D0.out.step hI.out hp)
                have ed : IntKind.u64.wrap ((q1 : Int) - 1) = (q : Int) := wr_in _ _ (by have := HQ1.out; omega) (by have := HQ1.out; omega)
                obtain ⟨r1, hr1⟩ : ∃ r1, r1 = r + y1 := ⟨_, rfl⟩
                have HR1 := Lib.hid hr1
                have ea : IntKind.u64.wrap ((r : Int) + (y1 : Int)) = (r1 : Int) := wr_in _ _ (by omega) (by omega)
                clear hr1
                by_cases hr : 4294967296 ≤ r1
                · have hri : (4294967296 : Int) ≤ (r1 : Int) := by omega
                  have HE : Hid (q = Q0) := D0.out.brk hs.out (by have := HR1.out; omega)
                  clear hr hp
                  go_wp2
                  obtain rfl : Q0 = q := HE.out.symm
                  clear em et et2 HT HM hI iq ir hqb hrb yl dl gi hri ed ea hs HR1 HQ1 HC2 ci c
                  go_ret2
                  exact ⟨ret_u64_2 G2 (by rw [G5, G6, G7]), Below.refl _ _⟩
                · have hri : decide ((4294967296 : Int) ≤ (r1 : Int)) = false := by rw [decide_eq_false_iff_not]; omega
                  have HN : Hid (Inv R1 d0 Y y1 q r1) := ⟨by have := hs.out.1; have := HR1.out; omega, hs.out.2.1, by have := hs.out.2.2; omega, by omega⟩
                  clear hr hp hqb hrb yl dl
                  go_wp2
                  go_round
                  case rel => exact ⟨q, r1, rfl, rfl, HN⟩
                  case measure => simp [intOf]; have := HQ1.out; omega
              · have gi : decide ((4294967296 : Int) ≤ (q1 : Int)) = false := by rw [decide_eq_false_iff_not]; omega
                have ci : ¬ (T2 : Int) < (M : Int) := by omega
                have HE : Hid (q1 = Q0) := D0.out.fin hI.out (by rw [← HM.out, ← HT.out]; exact c)
                clear g
                go_wp2
                obtain rfl : Q0 = q1 := HE.out.symm
                clear em et et2 HT HM hI iq ir hqb hrb yl dl gi ci c
                go_ret2
                exact ⟨ret_u64_2 G2 (by rw [G5, G6, G7]), Below.refl _ _⟩
        · have hri : decide ((4294967296 : Int) ≤ (r1 : Int)) = false := by rw [decide_eq_false_iff_not]; omega
          have HN : Hid (Inv U d1 Y y1 q r1) := ⟨by have := hs.out.1; have := HR1.out; omega, hs.out.2.1, by have := hs.out.2.2; omega, by omega⟩
          clear hr hp hqb hrb yl dl
          go_wp2
          go_round
          case rel => exact ⟨q, r1, rfl, rfl, HN⟩
          case measure => simp [intOf]; have := HQ1.out; omega
      · have gi : decide ((4294967296 : Int) ≤ (q1 : Int)) = false := by rw [decide_eq_false_iff_not]; omega
        have ci : ¬ (T2 : Int) < (M : Int) := by omega
        have HE : Hid (q1 = Q1) := D1.out.fin hI.out (by rw [← HM.out, ← HT.out]; exact c)
        clear g
        go_wp2
        obtain rfl : Q1 = q1 := HE.out.symm
        clear em et et2 HT HM hI iq ir hqb hrb yl dl gi ci c
        go_wp2
        go_loop [18, 16] (fun qv rv => ∃ q r : Nat, qv = .int .u64 (q : Int) ∧ rv = .int .u64 (r : Int) ∧ Hid (Inv R1 d0 Y y1 q r)) (fun qv _ => (intOf qv).toNat)
        case atStart => exact ⟨_, _, rfl, rfl, I0⟩
        case round =>
          obtain ⟨q1, r, rfl, rfl, hI⟩ := hrel
          have iq : (0 : Int) ≤ (q1 : Int) := Int.natCast_nonneg _
          have ir : (0 : Int) ≤ (r : Int) := Int.natCast_nonneg _
          have hqb : q1 ≤ 4294967297 := hI.out.2.2.1
          have hrb : r < 4294967296 := hI.out.2.2.2
          have yl := D0.out.h1'
          have dl := D0.out.hd
          obtain ⟨M, hM⟩ : ∃ M, M = q1 * y0 := ⟨_, rfl⟩
          obtain ⟨T1, hT1⟩ : ∃ T1, T1 = 4294967296 * r := ⟨_, rfl⟩
          obtain ⟨T2, hT2⟩ : ∃ T2, T2 = T1 + d0 := ⟨_, rfl⟩
          have m1 : M ≤ 4294967297 * 4294967295 := by rw [hM]; exact Nat.mul_le_mul hqb (by have := D0.out.h0; omega)
          have em : IntKind.u64.wrap ((q1 : Int) * (y0 : Int)) = (M : Int) := wr_mul q1 y0 _ hM.symm (by omega)
          have et : IntKind.u64.wrap (4294967296 * (r : Int)) = (T1 : Int) := wr_in _ _ (by omega) (by omega)
          have et2 : IntKind.u64.wrap ((T1 : Int) + (d0 : Int)) = (T2 : Int) := wr_in _ _ (by omega) (by omega)
          have HT : Hid (T2 = 4294967296 * r + d0) := by unfold Hid; omega
          have HM := Lib.hid hM
          clear hM hT1 hT2 m1
          by_cases g : 4294967296 ≤ q1
          · have gi : (4294967296 : Int) ≤ (q1 : Int) := by omega
            obtain ⟨q, hq⟩ : ∃ q, q1 = q + 1 := ⟨q1 - 1, by omega⟩
            have HQ1 := Lib.hid hq
            have hI2 := hI
            rw [hq] at hI2
            replace hI := hI2
            clear hq hI2
            have GG := Lib.hid g
            clear g
            have hp := D0.out.pos hI.out (.inl (by have := GG.out; have := HQ1.out; omega))
            have hs := Lib.hid (D0.out.step hI.out hp)
            have ed : IntKind.u64.wrap ((q1 : Int) - 1) = (q : Int) := wr_in _ _ (by have := HQ1.out; omega) (by have := HQ1.out; omega)
            obtain ⟨r1, hr1⟩ : ∃ r1, r1 = r + y1 := ⟨_, rfl⟩
            have HR1 := Lib.hid hr1
            have ea : IntKind.u64.wrap ((r : Int) + (y1 : Int)) = (r1 : Int) := wr_in _ _ (by omega) (by omega)
            clear hr1
            by_cases hr : 4294967296 ≤ r1
            · have hri : (4294967296 : Int) ≤ (r1 : Int) := by omega
              have HE : Hid (q = Q0) := D0.out.brk hs.out (by have := HR1.out; omega)
              clear hr hp
              go_wp2
              obtain rfl : Q0 = q := HE.out.symm
              clear em et et2 HT HM hI iq ir hqb hrb yl dl gi hri ed ea hs HR1 HQ1 GG
              go_ret2
              exact ⟨ret_u64_2 G2 (by rw [G5, G6, G7]), Below.refl _ _⟩
            · have hri : decide ((4294967296 : Int) ≤ (r1 : Int)) = false := by rw [decide_eq_false_iff_not]; omega
              have HN : Hid (Inv R1 d0 Y y1 q r1) := ⟨by have := hs.out.1; have := HR1.out; omega, hs.out.2.1, by have := hs.out.2.2; omega, by omega⟩
              clear hr hp hqb hrb yl dl
              go_wp2
              go_round
              case rel => exact ⟨q, r1, rfl, rfl, HN⟩
              case measure => simp [intOf]; have := HQ1.out; omega
          · by_cases c : T2 < M
            · have gi : decide ((4294967296 : Int) ≤ (q1 : Int)) = false := by rw [decide_eq_false_iff_not]; omega
              have ci : (T2 : Int) < (M : Int) := by omega
              have hq0 : 0 < q1 := by
                rcases Nat.eq_zero_or_pos q1 with h | h
                · have := HM.out; rw [h, Nat.zero_mul] at this; omega
                · exact h
              obtain ⟨q, hq⟩ : ∃ q, q1 = q + 1 := ⟨q1 - 1, by omega⟩
              have HQ1 := Lib.hid hq
              have hI2 := hI
              rw [hq] at hI2
              replace hI := hI2
              have HC2 : Hid (4294967296 * r + d0 < (q + 1) * y0) := by unfold Hid; rw [← hq, ← HM.out, ← HT.out]; exact c
              clear hq hI2 g hq0
              have hp := D0.out.pos hI.out (.inr HC2.out)
              have hs := Lib.hid (D0.out.step hI.out hp)
              have ed : IntKind.u64.wrap ((q1 : Int) - 1) = (q : Int) := wr_in _ _ (by have := HQ1.out; omega) (by have := HQ1.out; omega)
              obtain ⟨r1, hr1⟩ : ∃ r1, r1 = r + y1 := ⟨_, rfl⟩
              have HR1 := Lib.hid hr1
              have ea : IntKind.u64.wrap ((r : Int) + (y1 : Int)) = (r1 : Int) := wr_in _ _ (by omega) (by omega)
              clear hr1
              by_cases hr : 4294967296 ≤ r1
              · have hri : (4294967296 : Int) ≤ (r1 : Int) := by omega
                have HE : Hid (q = Q0) := D0.out.brk hs.out (by have := HR1.out; omega)
                clear hr hp
                go_wp2
                obtain rfl : Q0 = q := HE.out.symm
                clear em et et2 HT HM hI iq ir hqb hrb yl dl gi hri ed ea hs HR1 HQ1 HC2 ci c
                go_ret2
                exact ⟨ret_u64_2 G2 (by rw [G5, G6, G7]), Below.refl _ _⟩
              · have hri : decide ((4294967296 : Int) ≤ (r1 : Int)) = false := by rw [decide_eq_false_iff_not]; omega
                have HN : Hid (Inv R1 d0 Y y1 q r1) := ⟨by have := hs.out.1; have := HR1.out; omega, hs.out.2.1, by have := hs.out.2.2; omega, by omega⟩
                clear hr hp hqb hrb yl dl
                go_wp2
                go_round
                case rel => exact ⟨q, r1, rfl, rfl, HN⟩
                case measure => simp [intOf]; have := HQ1.out; omega
            · have gi : decide ((4294967296 : Int) ≤ (q1 : Int)) = false := by rw [decide_eq_false_iff_not]; omega
              have ci : ¬ (T2 : Int) < (M : Int) := by omega
              have HE : Hid (q1 = Q0) := D0.out.fin hI.out (by rw [← HM.out, ← HT.out]; exact c)
              clear g
              go_wp2
              obtain rfl : Q0 = q1 := HE.out.symm
              clear em et et2 HT HM hI iq ir hqb hrb yl dl gi ci c
              go_ret2
              exact ⟨ret_u64_2 G2 (by rw [G5, G6, G7]), Below.refl _ _⟩
end Go.Proofs.YtippffjhkinfoaaGreatDoor
