/-
  The contract of the reference's number.
-/
import Derived.Test.YtlmjijiepnefdaaGreatDoorTkA
import Derived.Test.YtlmjijiepnefdaaGreatDoorBigD
import Derived.Test.YtlmjijiepnefdaaGreatDoorBigC
import Derived.Deep.Cut

namespace Go.Proofs.YtlmjijiepnefdaaGreatDoor
open Go.RowKit

/-- A text's bytes. -/
def strN : Value → Nat
  | .string s => s.size
  | _ => 0

set_option maxHeartbeats 4000000 in
set_option maxRecDepth 100000 in
theorem refNumber_any (s : ByteArray) (at0 : Nat) (w : World) (hs : s.size ≤ 4000) (ha : at0 ≤ s.size) : Calls Tryz.prog 43 #[.string s, .int .i64 at0] w (GotPost (numR (s.data.toList.drop at0)) at0 w) := by
  have b0 := (Below.refl w.heap.size w).alloc (Nat.le_refl _) (.cells (wrongC 0 0) 48)
  have bX0 : Blk (w.alloc (.cells (wrongC 0 0) 48)) w.heap.size (wrongC 0 0) 48 := Blk.new _ _ _
  unfold wrongC at b0 bX0
  go_enter Tryz.func43, Tryz.ntmps43
  go_upto_block 0 with fail
  refine (refDigits_any s at0 _ hs ha).mono ?_
  rintro e w1 ⟨rfl, rfl⟩
  have hrl := runN_le digitB (s.data.toList.drop at0)
  rw [List.length_drop, size_list] at hrl
  obtain ⟨r0, hr0⟩ : ∃ r0, runN digitB (s.data.toList.drop at0) = r0 := ⟨_, rfl⟩
  rw [hr0] at hrl
  rw [hr0]
  have HR0 := Lib.hid hr0
  clear hr0
  generalize w.alloc (.cells #[.int .i64 0, .string ⟨#[]⟩, .int .i64 0, .int .i64 0, .string ⟨#[]⟩, .int .i64 0, .int .i64 0, .int .i64 0, .int .i64 0, .bool false] 48) = w1 at *
  have HB0 := Lib.hid b0
  have HX0 := Lib.hid bX0
  clear b0 bX0
  obtain ⟨te, hto⟩ : ∃ te, at0 + r0 = te := ⟨_, rfl⟩
  have htoi : (at0 : Int) + r0 = (te : Int) := by omega
  have htos : te ≤ s.size := by omega
  have hat : at0 ≤ te := by omega
  have HTo := Lib.hid hto
  clear hto hrl
  obtain ⟨T, hT⟩ : ∃ T, s.extract at0 te = T := ⟨_, rfl⟩
  have HT := Lib.hid hT
  clear hT
  obtain ⟨F, hF⟩ : ∃ F, fracN (s.data.toList.drop te) = F := ⟨_, rfl⟩
  have HF := Lib.hid hF
  clear hF
  go_upto_region 4 with fail
  go_cut [5, 6, 38] from 14 (fun p x t wx => p = .int .i64 (te : Int) ∧ x = .string T ∧ t = .bool (decide (0 < F)) ∧ wx = w1)
  case first =>
    by_cases h1 : te + 1 < s.size
    · have HD := Lib.hid (drop_cons s te (by omega))
      have HD2 := Lib.hid (drop_cons s (te + 1) h1)
      by_cases h2 : ((s[te]'(by omega)).toNat : Int) = 46
      · have h46 : s[te]'(by omega) = 46 := UInt8.toNat_inj.1 (by have : (46 : UInt8).toNat = 46 := rfl; omega)
        cases hd : digitB s[te + 1] with
        | true =>
          have hFp : decide (0 < F) = true := by
            rw [← HF.out]
            exact decide_eq_true (frac_pos.2 ⟨_, _, by rw [HD.out, HD2.out, h46], hd⟩)
          have HDg := Lib.hid hd
          clear hd h46 HD HD2
          go_wp2_with (go_at_call 28; (with_reducible refine (refDigit_any _ _).mono ?_); rintro e w'' ⟨rfl, rfl⟩; rw [HDg.out])
          go_meet
          exact ⟨rfl, by rw [HT.out], by rw [hFp], rfl⟩
        | false =>
          have hFp : decide (0 < F) = false := by
            rw [← HF.out]
            refine decide_eq_false (fun h => ?_)
            obtain ⟨c, r, he, hc⟩ := frac_pos.1 h
            rw [HD.out, HD2.out] at he
            injection he with _ he
            injection he with he _
            rw [he, hc] at hd
            cases hd
          have HDg := Lib.hid hd
          clear hd h46 HD HD2
          go_wp2_with (go_at_call 28; (with_reducible refine (refDigit_any _ _).mono ?_); rintro e w'' ⟨rfl, rfl⟩; rw [HDg.out])
          go_meet
          exact ⟨rfl, by rw [HT.out], by rw [hFp], rfl⟩
      · have hFp : decide (0 < F) = false := by
          rw [← HF.out]
          refine decide_eq_false (fun h => ?_)
          obtain ⟨c, r, he, hc⟩ := frac_pos.1 h
          rw [HD.out] at he
          injection he with he _
          rw [he] at h2
          exact h2 rfl
        clear HD HD2
        go_wp2_with fail
        go_meet
        exact ⟨rfl, by rw [HT.out], by rw [hFp], rfl⟩
    · have hFp : decide (0 < F) = false := by
        rw [← HF.out]
        refine decide_eq_false (fun h => ?_)
        obtain ⟨c, r, he, hc⟩ := frac_pos.1 h
        have := congrArg List.length he
        rw [List.length_drop, size_list, List.length_cons, List.length_cons] at this
        omega
      go_wp2_with fail
      go_meet
      exact ⟨rfl, by rw [HT.out], by rw [hFp], rfl⟩
  case rest =>
    obtain ⟨rfl, rfl, rfl, rfl⟩ := hcut
    clear htoi
    have hl0 : s.data.toList.drop te = (s.data.toList.drop at0).drop r0 := by rw [List.drop_drop, HTo.out]
    have hNF : Hid (numF (s.data.toList.drop at0) = F) := by unfold Hid numF; rw [HR0.out, ← hl0, HF.out]
    have hTl : Hid (T.data.toList = (s.data.toList.drop at0).take r0) := by unfold Hid; rw [← HT.out, ← HTo.out, take_ext]
    clear hl0
    have hTs : T.size ≤ 4000 := by rw [← size_list, hTl.out, List.length_take, List.length_drop, size_list]; omega
    go_upto_if 38 with fail
    go_cut [5, 6, 7] from 14 (fun p x k wx => ∃ (q K : Nat) (X : ByteArray), p = .int .i64 (q : Int) ∧ x = .string X ∧ k = .int .i64 (K : Int) ∧ wx = wc ∧ q ≤ s.size ∧ at0 ≤ q ∧ Hid (F ≤ 4 ∧ q = at0 + numN (s.data.toList.drop at0) ∧ X.data.toList = numD (s.data.toList.drop at0) ∧ K = if 0 < F then 3 else 2))
    case first =>
      by_cases hF0 : 0 < F
      · have hdt : decide (0 < F) = true := decide_eq_true hF0
        have hF2 : Hid (runN digitB (s.data.toList.drop (te + 1)) = F ∧ te + 1 + F ≤ s.size) := by
          obtain ⟨c, r, he, _⟩ := frac_pos.1 (by rw [HF.out]; exact hF0 : 0 < fracN (s.data.toList.drop te))
          have h1 : s.data.toList.drop (te + 1) = c :: r := by rw [← List.drop_drop, he]; rfl
          have h2 := HF.out
          rw [he, frac_run, ← h1] at h2
          have h3 := runN_le digitB (s.data.toList.drop (te + 1))
          rw [h2, List.length_drop, size_list] at h3
          have h4 : 1 < (s.data.toList.drop te).length := by rw [he]; simp
          rw [List.length_drop, size_list] at h4
          exact ⟨h2, by omega⟩
        have hts : te + 1 + F ≤ s.size := hF2.out.2
        have hDg : Hid (∀ w' : World, Calls Tryz.prog 64 #[.string s, .int .i64 ((te : Int) + 1)] w' fun e w'' => e = .returned (.int .i64 (((te + 1 + F : Nat)) : Int)) ∧ w'' = w') := by
          intro w'
          have h := refDigits_any s (te + 1) w' hs (by omega)
          rw [hF2.out.1] at h
          exact h
        obtain ⟨en, hen⟩ : ∃ en, te + 1 + F = en := ⟨_, rfl⟩
        rw [hen] at hDg hts
        obtain ⟨R, hR⟩ : ∃ R, s.extract (te + 1) en = R := ⟨_, rfl⟩
        have hRl : Hid (R.data.toList = (((s.data.toList.drop at0).drop r0).drop 1).take F) := by
          unfold Hid
          rw [← hR, ← hen, take_ext, List.drop_drop, List.drop_drop, ← HTo.out, Nat.add_assoc]
        have hRs : R.size = F := by
          rw [← size_list, hRl.out, List.drop_drop, List.drop_drop, List.length_take, List.length_drop, size_list]
          have := HTo.out
          omega
        have HE := Lib.hid hen
        have HRe := Lib.hid hR
        have hte : te + 1 ≤ en := by omega
        clear hen hR
        by_cases h4 : 4 < F
        · have HQ := Lib.hid (got_bad (r := numR (s.data.toList.drop at0)) (at0 := at0) (n := 0) (e := 42) (by unfold numR; rw [hNF.out, if_pos h4]) (by decide))
          have h4i : (4 : Int) < ((en - (te + 1) : Nat) : Int) := by have := HE.out; omega
          go_wp2_with (go_at_call 64; (with_reducible refine (hDg.out _).mono ?_); rintro e w'' ⟨rfl, rfl⟩)
          refine (wrong_any _ _ _).mono ?_
          rintro e w2 ⟨rfl, b2⟩
          have hb2 := HB0.out.trans (b2.mono HB0.out.size)
          have bY := HX0.out.below b2
          have y0 := bY.cell 0
          have y1 := bY.cell 1
          have y2 := bY.cell 2
          have y3 := bY.cell 3
          have y4 := bY.cell 4
          have y5 := bY.cell 5
          have y6 := bY.cell 6
          have y7 := bY.cell 7
          have y8 := bY.cell 8
          have y9 := bY.cell 9
          simp only [List.getElem?_toArray, List.getElem?_cons_zero, List.getElem?_cons_succ] at y0 y1 y2 y3 y4 y5 y6 y7 y8 y9
          have f0 := bY.frozen 0
          have f1 := bY.frozen 1
          have f2 := bY.frozen 2
          have f3 := bY.frozen 3
          have f4 := bY.frozen 4
          have f5 := bY.frozen 5
          have f6 := bY.frozen 6
          have f7 := bY.frozen 7
          have f8 := bY.frozen 8
          have f9 := bY.frozen 9
          clear bY b2
          unfold wrongC
          go_wp2_with fail
          unfold GotPost
          rw [HQ.out]
          refine bodyPost_ret ?_ rfl ⟨rfl, ?_⟩
          · simp [results, Tryz.results43, go_sem, wrongC, y0, y1, y2, y3, y4, y5, y6, y7, y8, y9]
          · exact ((((((((((hb2.setCell (Nat.le_refl _) _).setCell (Nat.le_refl _) _).setCell (Nat.le_refl _) _).setCell (Nat.le_refl _) _).setCell (Nat.le_refl _) _).setCell (Nat.le_refl _) _).setCell (Nat.le_refl _) _).setCell (Nat.le_refl _) _).setCell (Nat.le_refl _) _).setCell (Nat.le_refl _) _)
        · have h4i : ((en - (te + 1) : Nat) : Int) ≤ 4 := by have := HE.out; omega
          go_wp2_with (go_at_call 64; (with_reducible refine (hDg.out _).mono ?_); rintro e w'' ⟨rfl, rfl⟩)
          rw [HRe.out]
          go_loopw [9] (fun r wr => ∃ (k : Nat) (Q : ByteArray), r = .string Q ∧ F + k ≤ 4 ∧ Q.size = F + k ∧ wr = w'' ∧ Hid (Q.data.toList = R.data.toList ++ List.replicate k 48)) (fun r _ => 4 - strN r)
          case atStart => exact ⟨0, R, rfl, by omega, hRs, rfl, by unfold Hid; simp⟩
          case round =>
            obtain ⟨k, Q, rfl, hk, hQs, rfl, hQl⟩ := hrel
            by_cases hk4 : F + k < 4
            · have hQi : (Q.size : Int) < 4 := by omega
              go_wp2_with fail
              refine ⟨⟨k + 1, Q ++ ⟨#[48]⟩, rfl, by omega, ?_, trivial, ?_⟩, ?_⟩
              · rw [ByteArray.size_append, hQs]; rfl
              · unfold Hid
                rw [ByteArray.data_append, Array.toList_append, hQl.out, List.append_assoc, List.replicate_succ']
              · simp only [strN, ByteArray.size_append, hQs]
                show 4 - (F + k + 1) < _
                omega
            · have hQi : ¬ (Q.size : Int) < 4 := by omega
              have hkF : k = 4 - F := by omega
              go_wp2_with fail
              go_meet
              refine ⟨en, 3, T ++ Q, rfl, rfl, rfl, rfl, hts, by omega, ?_⟩
              refine ⟨by omega, ?_, ?_, by rw [if_pos hF0]⟩
              · unfold numN; rw [hNF.out, if_pos hF0, HR0.out]; have := HE.out; have := HTo.out; omega
              · unfold numD
                rw [hNF.out, if_pos hF0, HR0.out, ByteArray.data_append, Array.toList_append, hTl.out, hQl.out, hRl.out, hkF]
      · have hdt : decide (0 < F) = false := decide_eq_false hF0
        go_wp2_with fail
        go_meet
        refine ⟨te, 2, T, rfl, rfl, rfl, rfl, htos, hat, ?_⟩
        refine ⟨by omega, ?_, ?_, by rw [if_neg hF0]⟩
        · unfold numN; rw [hNF.out, if_neg hF0, HR0.out, HTo.out]
        · unfold numD; rw [hNF.out, if_neg hF0, HR0.out, List.append_nil]; exact hTl.out
    case rest =>
      obtain ⟨q, K, X, rfl, rfl, rfl, rfl, hq, haq, HH⟩ := hcut
      clear hTl htos hat
      have hXl : X.size ≤ 4004 := by
        rw [← size_list, HH.out.2.2.1]
        unfold numD
        have h1 := HH.out.1
        rw [List.length_append, List.length_take, List.length_drop, size_list, hNF.out]
        split
        · rw [List.length_append, List.length_take, List.length_replicate]; omega
        · simp; omega
      have hXd : Hid (∀ c ∈ X.data.toList, digitB c = true) := by unfold Hid; rw [HH.out.2.2.1]; exact numD_all _
      have b1 := HB0.out.alloc HB0.out.size (.cells #[.bool false, .slice none 0 0] 83)
      have bX1 := HX0.out.alloc (.cells #[.bool false, .slice none 0 0] 83)
      have bN1 := Blk.new wc #[.bool false, .slice none 0 0] 83
      have hwz : w.heap.size < wc.heap.size := HX0.out.lt
      go_wp2_with fail
      go_loopw [11] (fun i wr => ∃ (k : Nat) (m : Bool) (sl : Value) (L : List Int), i = .int .i64 (k : Int) ∧ k ≤ X.size ∧ Below w.heap.size w wr ∧ Hid (Blk wr w.heap.size #[.int .i64 0, .string ⟨#[]⟩, .int .i64 0, .int .i64 0, .string ⟨#[]⟩, .int .i64 0, .int .i64 0, .int .i64 0, .int .i64 0, .bool false] 48) ∧ Blk wr wc.heap.size #[.bool m, sl] 83 ∧ Hid (DigV wr sl L) ∧ Hid (Norm L ∧ zOf m L = (decF 0 (X.data.toList.take k) : Int))) (fun i _ => X.size - (intOf i).toNat)
      case atStart => exact ⟨0, false, _, [], rfl, Nat.zero_le _, b1, bX1, bN1, .inl ⟨rfl, rfl⟩, Norm.nil, rfl⟩
      case round =>
        obtain ⟨k, m, sl, L, rfl, hk, hb, HX, bN, HD, HV⟩ := hrel
        clear b1 bX1 bN1
        by_cases hlt : k < X.size
        · have c0 := bN.cell 0
          have c1 := bN.cell 1
          simp only [List.getElem?_toArray, List.getElem?_cons_zero, List.getElem?_cons_succ] at c0 c1
          obtain ⟨c, hc⟩ : ∃ c : Nat, X[k].toNat = c := ⟨_, rfl⟩
          have hkl : k < X.data.toList.length := by rw [size_list]; exact hlt
          have hdx : 48 ≤ c ∧ c ≤ 57 := by
            have h1 := (digit_iff _).1 (hXd.out X.data.toList[k] (List.getElem_mem hkl))
            rw [← hc]
            exact h1
          have hstep : Hid (decF 0 (X.data.toList.take (k + 1)) = decF 0 (X.data.toList.take k) * 10 + (c - 48)) := by
            unfold Hid
            rw [decF_take _ _ hkl, ← hc]
            rfl
          have hroom : Hid ((decF 0 (X.data.toList.take k) : Int) + 1 ≤ pw k) := by
            have h1 := dec_room (X.data.toList.take k) 0 0 (fun y hy => hXd.out y (List.mem_of_mem_take hy)) (by decide)
            rw [List.length_take, Nat.min_eq_left (Nat.le_of_lt hkl), Nat.zero_add] at h1
            exact h1
          obtain ⟨v, hv⟩ : ∃ v, decF 0 (X.data.toList.take k) = v := ⟨_, rfl⟩
          rw [hv] at hstep hroom HV
          have hVL : Hid (valD L = (v : Int)) := zOf_abs HV.out.1.1 (by omega) HV.out.2
          have hp := pw_pos k
          have hl1 : Hid (L.length ≤ k) := HV.out.1.len_of (by rw [hVL.out]; have := hroom.out; omega)
          obtain ⟨d, hd⟩ : ∃ d, c - 48 = d := ⟨_, rfl⟩
          rw [hd] at hstep
          have hd9 : d ≤ 9 := by omega
          have hcd : IntKind.u8.wrap ((c : Int) - 48) = (d : Int) := by
            simp only [IntKind.wrap, IntKind.bits, IntKind.signed]
            simp
            omega
          have hOf : Hid (∀ w' : World, Calls Tryz.prog 67 #[.int .i64 (IntKind.i64.wrap (d : Int))] w' fun e w'' => ∃ A c L, e = .returned (.agg #[.bool false, .slice A L.length c]) ∧ DigB w'' w'.heap.size (.slice A L.length c) L ∧ Norm L ∧ valD L = d ∧ Below w'.heap.size w' w'') := by
            intro w'
            have hwd : IntKind.i64.wrap (d : Int) = d := by
              simp only [IntKind.wrap, IntKind.bits, IntKind.signed]
              simp
              omega
            rw [hwd]
            exact of_pos (d : Int) w' (by omega) (by omega)
          clear hv hd hkl
          have hpk : k ≤ 4004 := by omega
          go_wp2_with fail
          go_region_with (first
            | (go_at_call 67; (with_reducible refine (of_pos 10 _ (by decide) (by decide)).mono ?_); rintro e w2 ⟨A2, c2, L2, rfl, hd2, hn2, hv2, hb2⟩; have hbr2 := (Below.refl wr.heap.size wr).drew.trans hb2; have bN2 := bN.below hbr2; have t0 := bN2.cell 0; have t1 := bN2.cell 1; simp only [List.getElem?_toArray, List.getElem?_cons_zero, List.getElem?_cons_succ] at t0 t1)
            | (go_at_call 66; refine (bigTimes_any m false sl _ L L2 _ (HD.out.below hbr2) hd2.1 HV.out.1.1 hn2.1 (by have h1 := hn2.len_of (n := 1) (by rw [hv2]; decide); have h2 := hl1.out; omega)).mono ?_; rintro e w3 ⟨m3, v3, L3, rfl, hd3, hn3, hz3, hb3⟩; obtain ⟨A3, c3, rfl, hq3, hQ3⟩ := DigV.open hd3.1; clear hq3 hQ3; have hbr3 := hbr2.trans (hb3.mono hbr2.size); have bN3 := bN.below hbr3; have u0 := bN3.cell 0; have u1 := bN3.cell 1; simp only [List.getElem?_toArray, List.getElem?_cons_zero, List.getElem?_cons_succ] at u0 u1)
            | (go_at_call 67; (with_reducible refine (hOf.out _).mono ?_); rintro e w4 ⟨A4, c4, L4, rfl, hd4, hn4, hv4, hb4⟩; have hbr4 := hbr3.trans (hb4.mono hbr3.size); have bN4 := bN.below hbr4; have s0 := bN4.cell 0; have s1 := bN4.cell 1; simp only [List.getElem?_toArray, List.getElem?_cons_zero, List.getElem?_cons_succ] at s0 s1)
            | (go_at_call 65; have hV3 : valD L3 = 10 * (v : Int) := zOf_abs hn3.1 (by omega) (by rw [hz3, HV.out.2]; show (v : Int) * valD L2 = _; rw [hv2]; omega); have hl3 : L3.length ≤ k + 1 := hn3.len_of (by rw [hV3, pw_succ]; have := hroom.out; omega); have hl4 : L4.length ≤ 1 := hn4.len_of (by rw [hv4, show pw 1 = 1000000 by decide]; omega); refine (bigPlus_any m3 false _ _ L3 L4 _ (hd3.1.below hb4) hd4.1 hn3 hn4 (by omega) (by omega)).mono ?_; rintro e w5 ⟨m5, v5, L5, rfl, hd5, hn5, hz5, hb5⟩; obtain ⟨A5, c5, rfl, hq5, hQ5⟩ := DigV.open hd5.1; clear hq5 hQ5; have hbr5 := hbr4.trans (hb5.mono hbr4.size); have bN5 := bN.below hbr5; have r0 := bN5.cell 0; have r1 := bN5.cell 1; have g0 := bN5.frozen 0; have g1 := bN5.frozen 1; simp only [List.getElem?_toArray, List.getElem?_cons_zero, List.getElem?_cons_succ] at r0 r1))
          all_goals
            first | (rename_i K0 hK0 _; change K0 _ _; refine hK0 _ _ ?_) | (rename_i K0 hK0; change K0 _ _; refine hK0 _ _ ?_)
            go_wp2_with fail
            have hlt4 : wc.heap.size < w4.heap.size := bN4.lt
            have hbf := ((hb.trans (hbr5.mono hb.size)).setCell (p := ⟨wc.heap.size, 0, none⟩) (Nat.le_of_lt hwz) (.bool m5)).setCell (p := ⟨wc.heap.size, 1, none⟩) (Nat.le_of_lt hwz) (.slice A5 L5.length c5)
            have hXf := ((HX.out.below hbr5).setOther (b' := wc.heap.size) (by omega) 0 (.bool m5)).setOther (b' := wc.heap.size) (by omega) 1 (.slice A5 L5.length c5)
            have bNf := (bN5.set 0 (.bool m5)).set 1 (.slice A5 L5.length c5)
            have hDf := ((hd5.set (b := wc.heap.size) (j := 0) (u := .bool m5) hlt4).set (b := wc.heap.size) (j := 1) (u := .slice A5 L5.length c5) hlt4).1
            refine ⟨⟨k + 1, m5, _, L5, by simp, by omega, hbf, hXf, by simpa using bNf, hDf, hn5, ?_⟩, by simp [intOf]; omega⟩
            rw [hz5, hstep.out, hz3, HV.out.2]
            show (v : Int) * valD L2 + valD L4 = _
            rw [hv2, hv4]
            omega
        · obtain rfl : k = X.size := by omega
          have hXt : X.data.toList.take X.size = X.data.toList := by rw [← size_list, List.take_length]
          rw [hXt] at HV
          have c0 := bN.cell 0
          have c1 := bN.cell 1
          simp only [List.getElem?_toArray, List.getElem?_cons_zero, List.getElem?_cons_succ] at c0 c1
          obtain ⟨v, hv⟩ : ∃ v, decF 0 X.data.toList = v := ⟨_, rfl⟩
          rw [hv] at HV
          have hvD : Hid (decF 0 (numD (s.data.toList.drop at0)) = v) := by unfold Hid; rw [← HH.out.2.2.1]; exact hv
          have hVL : Hid (valD L = (v : Int)) := zOf_abs HV.out.1.1 (by omega) HV.out.2
          have hlL : Hid (L.length ≤ 5000) := by
            have h1 := decDig_len hXd.out HV.out.1 (by rw [hVL.out, hv])
            rw [size_list] at h1
            unfold Hid; omega
          have hz : Hid (zOf (!m && decide (0 < L.length)) L = -(v : Int)) := by
            have h2 := HV.out.2
            cases m with
            | false =>
              show zOf (decide (0 < L.length)) L = _
              rw [zOf_dec, hVL.out]
            | true =>
              have h3 : -valD L = (v : Int) := h2
              show valD L = _
              have := hVL.out
              omega
          clear hv hXt
          have hHlen := Lib.hid hk
          go_wp2_with fail
          refine (minus_any m sl L _ HD.out).mono ?_
          rintro e w6 ⟨rfl, hb6⟩
          go_wp2_with fail
          refine (fits_any _ _ L _ (HD.out.below hb6) HV.out.1 hlL.out).mono ?_
          rintro e w7 ⟨rfl, hb7⟩
          rw [hz.out]
          have hb67 := hb6.trans (hb7.mono hb6.size)
          have hbw := hb.trans (hb67.mono hb.size)
          have HXw := Lib.hid (HX.out.below hb67)
          have hdr : Hid (s.data.toList.drop q = (s.data.toList.drop at0).drop (numN (s.data.toList.drop at0))) := by unfold Hid; rw [List.drop_drop, ← HH.out.2.1]
          have hHq := Lib.hid HH.out.2.1
          have hNu : Hid (numR (s.data.toList.drop at0) = if 9223372036854775808 < v ∨ 0 < runN letterB (s.data.toList.drop q) then (Tok.zero, 0, 42) else (⟨3, [], if 0 < F then 3 else 2, numV v, []⟩, numN (s.data.toList.drop at0), 0)) := by
            unfold Hid numR
            rw [hNF.out, if_neg (by have := HH.out.1; omega), hvD.out, hdr.out]
          have hKF : Hid (((if 0 < F then 3 else 2 : Int)) = (K : Int)) := by
            have := HH.out.2.2.2
            unfold Hid
            rw [this]
            split <;> rfl
          clear c0 c1 bN HX HD HV hz hVL hlL hb hb6 hb7 hb67 HH
          by_cases hv1 : 9223372036854775808 < v
          · have hfit : fitsB (-(v : Int)) = false := by unfold fitsB; exact decide_eq_false (by omega)
            have HQ := Lib.hid (got_bad (at0 := at0) (hNu.out.trans (if_pos (.inl hv1))) (by decide))
            rw [hfit]
            go_wp2_with fail
            refine (wrong_any _ _ _).mono ?_
            rintro e w2 ⟨rfl, b2⟩
            have hb2 := hbw.trans (b2.mono hbw.size)
            have bY := HXw.out.below b2
            have y0 := bY.cell 0
            have y1 := bY.cell 1
            have y2 := bY.cell 2
            have y3 := bY.cell 3
            have y4 := bY.cell 4
            have y5 := bY.cell 5
            have y6 := bY.cell 6
            have y7 := bY.cell 7
            have y8 := bY.cell 8
            have y9 := bY.cell 9
            simp only [List.getElem?_toArray, List.getElem?_cons_zero, List.getElem?_cons_succ] at y0 y1 y2 y3 y4 y5 y6 y7 y8 y9
            have f0 := bY.frozen 0
            have f1 := bY.frozen 1
            have f2 := bY.frozen 2
            have f3 := bY.frozen 3
            have f4 := bY.frozen 4
            have f5 := bY.frozen 5
            have f6 := bY.frozen 6
            have f7 := bY.frozen 7
            have f8 := bY.frozen 8
            have f9 := bY.frozen 9
            clear bY b2
            unfold wrongC
            go_wp2_with fail
            unfold GotPost
            rw [HQ.out]
            refine bodyPost_ret ?_ rfl ⟨rfl, ?_⟩
            · simp [results, Tryz.results43, go_sem, wrongC, y0, y1, y2, y3, y4, y5, y6, y7, y8, y9]
            · exact ((((((((((hb2.setCell (Nat.le_refl _) _).setCell (Nat.le_refl _) _).setCell (Nat.le_refl _) _).setCell (Nat.le_refl _) _).setCell (Nat.le_refl _) _).setCell (Nat.le_refl _) _).setCell (Nat.le_refl _) _).setCell (Nat.le_refl _) _).setCell (Nat.le_refl _) _).setCell (Nat.le_refl _) _)
          · have hfit : fitsB (-(v : Int)) = true := by unfold fitsB; exact decide_eq_true (by omega)
            rw [hfit]
            by_cases hq1 : q < s.size
            · have HDq := Lib.hid (drop_cons s q hq1)
              cases hl : letterB s[q] with
              | true =>
                have HQ := Lib.hid (got_bad (at0 := at0) (hNu.out.trans (if_pos (.inr (by rw [HDq.out, runN_cons, if_pos hl]; omega)))) (by decide))
                have HL := Lib.hid hl
                clear hl
                go_wp2_with (go_at_call 27; (with_reducible refine (refLetter_any _ _).mono ?_); rintro e w'' ⟨rfl, rfl⟩; rw [HL.out])
                refine (wrong_any _ _ _).mono ?_
                rintro e w2 ⟨rfl, b2⟩
                have hb2 := hbw.trans (b2.mono hbw.size)
                have bY := HXw.out.below b2
                have y0 := bY.cell 0
                have y1 := bY.cell 1
                have y2 := bY.cell 2
                have y3 := bY.cell 3
                have y4 := bY.cell 4
                have y5 := bY.cell 5
                have y6 := bY.cell 6
                have y7 := bY.cell 7
                have y8 := bY.cell 8
                have y9 := bY.cell 9
                simp only [List.getElem?_toArray, List.getElem?_cons_zero, List.getElem?_cons_succ] at y0 y1 y2 y3 y4 y5 y6 y7 y8 y9
                have f0 := bY.frozen 0
                have f1 := bY.frozen 1
                have f2 := bY.frozen 2
                have f3 := bY.frozen 3
                have f4 := bY.frozen 4
                have f5 := bY.frozen 5
                have f6 := bY.frozen 6
                have f7 := bY.frozen 7
                have f8 := bY.frozen 8
                have f9 := bY.frozen 9
                clear bY b2
                unfold wrongC
                go_wp2_with fail
                unfold GotPost
                rw [HQ.out]
                refine bodyPost_ret ?_ rfl ⟨rfl, ?_⟩
                · simp [results, Tryz.results43, go_sem, wrongC, y0, y1, y2, y3, y4, y5, y6, y7, y8, y9]
                · exact ((((((((((hb2.setCell (Nat.le_refl _) _).setCell (Nat.le_refl _) _).setCell (Nat.le_refl _) _).setCell (Nat.le_refl _) _).setCell (Nat.le_refl _) _).setCell (Nat.le_refl _) _).setCell (Nat.le_refl _) _).setCell (Nat.le_refl _) _).setCell (Nat.le_refl _) _).setCell (Nat.le_refl _) _)
              | false =>
                have HL := Lib.hid hl
                have hno : ¬ (9223372036854775808 < v ∨ 0 < runN letterB (s.data.toList.drop q)) := by
                  rw [HDq.out, runN_cons, if_neg (by rw [hl]; simp)]
                  omega
                clear hl
                have HQ : Hid ((if (numR (s.data.toList.drop at0)).2.2 = 0 then gotC (numR (s.data.toList.drop at0)).1 at0 ((at0 + (numR (s.data.toList.drop at0)).2.1 : Nat) : Int) else wrongC (numR (s.data.toList.drop at0)).2.2 ((at0 + (numR (s.data.toList.drop at0)).2.1 : Nat) : Int)) = gotC ⟨3, [], (K : Int), numV v, []⟩ at0 (q : Int)) := by
                  unfold Hid
                  rw [got_ok (hNu.out.trans (if_neg hno)), hKF.out, ← hHq.out]
                have hvn := numV_wrap v (by omega)
                have bY := HXw.out
                have y0 := bY.cell 0
                have y1 := bY.cell 1
                have y2 := bY.cell 2
                have y3 := bY.cell 3
                have y4 := bY.cell 4
                have y5 := bY.cell 5
                have y6 := bY.cell 6
                have y7 := bY.cell 7
                have y8 := bY.cell 8
                have y9 := bY.cell 9
                simp only [List.getElem?_toArray, List.getElem?_cons_zero, List.getElem?_cons_succ] at y0 y1 y2 y3 y4 y5 y6 y7 y8 y9
                have f0 := bY.frozen 0
                have f1 := bY.frozen 1
                have f2 := bY.frozen 2
                have f3 := bY.frozen 3
                have f4 := bY.frozen 4
                have f5 := bY.frozen 5
                have f6 := bY.frozen 6
                have f7 := bY.frozen 7
                have f8 := bY.frozen 8
                have f9 := bY.frozen 9
                clear bY hno
                by_cases hv2 : v = 9223372036854775808
                · have hvi : -(v : Int) = -9223372036854775808 := by omega
                  have hvv : numV v = -9223372036854775808 := by unfold numV; rw [if_pos hv2]
                  rw [hvi]
                  go_wp2_with (go_at_call 27; (with_reducible refine (refLetter_any _ _).mono ?_); rintro e w'' ⟨rfl, rfl⟩; rw [HL.out])
                  unfold GotPost
                  rw [HQ.out, hvv]
                  refine bodyPost_ret ?_ rfl ⟨rfl, ?_⟩
                  · simp [results, Tryz.results43, go_sem, gotC, y0, y1, y2, y3, y4, y5, y6, y7, y8, y9]
                  · exact ((((((((((hbw.setCell (Nat.le_refl _) _).setCell (Nat.le_refl _) _).setCell (Nat.le_refl _) _).setCell (Nat.le_refl _) _).setCell (Nat.le_refl _) _).setCell (Nat.le_refl _) _).setCell (Nat.le_refl _) _).setCell (Nat.le_refl _) _).setCell (Nat.le_refl _) _).setCell (Nat.le_refl _) _)
                · have hvi : ¬ -(v : Int) = -9223372036854775808 := by omega
                  have hvv : numV v = v := by unfold numV; rw [if_neg hv2]
                  go_wp2_with (go_at_call 27; (with_reducible refine (refLetter_any _ _).mono ?_); rintro e w'' ⟨rfl, rfl⟩; rw [HL.out])
                  unfold GotPost
                  rw [HQ.out, hvv]
                  refine bodyPost_ret ?_ rfl ⟨rfl, ?_⟩
                  · simp [results, Tryz.results43, go_sem, gotC, y0, y1, y2, y3, y4, y5, y6, y7, y8, y9]
                  · exact ((((((((((hbw.setCell (Nat.le_refl _) _).setCell (Nat.le_refl _) _).setCell (Nat.le_refl _) _).setCell (Nat.le_refl _) _).setCell (Nat.le_refl _) _).setCell (Nat.le_refl _) _).setCell (Nat.le_refl _) _).setCell (Nat.le_refl _) _).setCell (Nat.le_refl _) _).setCell (Nat.le_refl _) _)
            · have hno : ¬ (9223372036854775808 < v ∨ 0 < runN letterB (s.data.toList.drop q)) := by
                rw [List.drop_eq_nil_of_le (by rw [size_list]; omega)]
                simp [runN]
                omega
              have HQ : Hid ((if (numR (s.data.toList.drop at0)).2.2 = 0 then gotC (numR (s.data.toList.drop at0)).1 at0 ((at0 + (numR (s.data.toList.drop at0)).2.1 : Nat) : Int) else wrongC (numR (s.data.toList.drop at0)).2.2 ((at0 + (numR (s.data.toList.drop at0)).2.1 : Nat) : Int)) = gotC ⟨3, [], (K : Int), numV v, []⟩ at0 (q : Int)) := by
                unfold Hid
                rw [got_ok (hNu.out.trans (if_neg hno)), hKF.out, ← hHq.out]
              have hvn := numV_wrap v (by omega)
              have bY := HXw.out
              have y0 := bY.cell 0
              have y1 := bY.cell 1
              have y2 := bY.cell 2
              have y3 := bY.cell 3
              have y4 := bY.cell 4
              have y5 := bY.cell 5
              have y6 := bY.cell 6
              have y7 := bY.cell 7
              have y8 := bY.cell 8
              have y9 := bY.cell 9
              simp only [List.getElem?_toArray, List.getElem?_cons_zero, List.getElem?_cons_succ] at y0 y1 y2 y3 y4 y5 y6 y7 y8 y9
              have f0 := bY.frozen 0
              have f1 := bY.frozen 1
              have f2 := bY.frozen 2
              have f3 := bY.frozen 3
              have f4 := bY.frozen 4
              have f5 := bY.frozen 5
              have f6 := bY.frozen 6
              have f7 := bY.frozen 7
              have f8 := bY.frozen 8
              have f9 := bY.frozen 9
              clear bY hno
              by_cases hv2 : v = 9223372036854775808
              · have hvi : -(v : Int) = -9223372036854775808 := by omega
                have hvv : numV v = -9223372036854775808 := by unfold numV; rw [if_pos hv2]
                rw [hvi]
                go_wp2_with fail
                unfold GotPost
                rw [HQ.out, hvv]
                refine bodyPost_ret ?_ rfl ⟨rfl, ?_⟩
                · simp [results, Tryz.results43, go_sem, gotC, y0, y1, y2, y3, y4, y5, y6, y7, y8, y9]
                · exact ((((((((((hbw.setCell (Nat.le_refl _) _).setCell (Nat.le_refl _) _).setCell (Nat.le_refl _) _).setCell (Nat.le_refl _) _).setCell (Nat.le_refl _) _).setCell (Nat.le_refl _) _).setCell (Nat.le_refl _) _).setCell (Nat.le_refl _) _).setCell (Nat.le_refl _) _).setCell (Nat.le_refl _) _)
              · have hvi : ¬ -(v : Int) = -9223372036854775808 := by omega
                have hvv : numV v = v := by unfold numV; rw [if_neg hv2]
                go_wp2_with fail
                unfold GotPost
                rw [HQ.out, hvv]
                refine bodyPost_ret ?_ rfl ⟨rfl, ?_⟩
                · simp [results, Tryz.results43, go_sem, gotC, y0, y1, y2, y3, y4, y5, y6, y7, y8, y9]
                · exact ((((((((((hbw.setCell (Nat.le_refl _) _).setCell (Nat.le_refl _) _).setCell (Nat.le_refl _) _).setCell (Nat.le_refl _) _).setCell (Nat.le_refl _) _).setCell (Nat.le_refl _) _).setCell (Nat.le_refl _) _).setCell (Nat.le_refl _) _).setCell (Nat.le_refl _) _).setCell (Nat.le_refl _) _)


end Go.Proofs.YtlmjijiepnefdaaGreatDoor
