/-
  The contract of lex's number.
-/
import Derived.Test.YtlmjijiepnefdaaGreatDoorLexNum
import Derived.Test.YtlmjijiepnefdaaGreatDoorLexText
import Derived.RegionTactic
import Derived.Lib.SmallJoins
import Derived.Laws.Rows
import Derived.ChangeAlike
namespace Go.Proofs.YtlmjijiepnefdaaGreatDoor
open Go.RowKit

theorem noughts_ex (f : Nat) (h : f ≤ 4) : ((⟨#[48, 48, 48, 48]⟩ : ByteArray).extract f 4).data.toList = List.replicate (4 - f) 48 := by
  have : ∀ x : Fin 5, ((⟨#[48, 48, 48, 48]⟩ : ByteArray).extract x.val 4).data.toList = List.replicate (4 - x.val) 48 := by decide +kernel
  exact this ⟨f, by omega⟩

/-- The variable ErrRange of strconv holds nil or an error. -/
def ErrV (w : World) : Prop := 4 < w.heap.size ∧ ∃ ev : Value, w.cell? ⟨4, 0, none⟩ = some ev ∧ (ev = .nilIface ∨ ∃ te pe, ev = .iface te pe)
theorem ErrV.below {w w' : World} (h : ErrV w) (hb : Below w.heap.size w w') : ErrV w' := by
  obtain ⟨h1, ev, hm, he⟩ := h
  exact ⟨Nat.lt_of_lt_of_le h1 hb.size, ev, by rw [hb.cell (p := ⟨4, 0, none⟩) h1]; exact hm, he⟩

/-- Digits are read as the number that they spell; or an error comes back, where no uint64 holds it. -/
theorem parse_any (s : ByteArray) (w : World) (hs : s.size ≤ 8000) (hne : s.data.toList ≠ []) (hd : ∀ c ∈ s.data.toList, digitB c = true) (hE : ErrV w) :
    Calls Tryz.prog 51 #[.string s, .int .i64 10, .int .i64 64] w fun e w' => (∃ er : Value, e = .returned (.tuple #[.int .u64 (if decF 0 s.data.toList ≤ 18446744073709551615 then (decF 0 s.data.toList : Int) else 18446744073709551615), er]) ∧ ((decF 0 s.data.toList ≤ 18446744073709551615 ∧ er = .nilIface) ∨ (18446744073709551615 < decF 0 s.data.toList ∧ ∃ p, er = .iface 126 p))) ∧ Below w.heap.size w w' := by
  have hp := parse_eq _ hne hd
  by_cases h : decF 0 s.data.toList ≤ 18446744073709551615
  · rw [if_pos h] at hp
    refine (Tryz.strconv_ParseUint_10_at64_ok s (by omega) _ hp w).mono fun e w' ⟨he, hw⟩ => ⟨⟨_, by rw [he, if_pos h], .inl ⟨h, rfl⟩⟩, ?_⟩
    rcases hw with rfl | rfl
    · exact Below.refl _ _
    · exact Go.Joins.below_bytesWorld _ _ _ _ (Nat.le_refl _)
  · rw [if_neg h] at hp
    obtain ⟨_, ev, hm, he⟩ := hE
    refine (Tryz.strconv_ParseUint_10_at64_range s (by omega) hp ev w hm he).mono fun e w' ⟨N, he, _, _, hb⟩ => ⟨⟨.iface 126 (.pointer (some ⟨N, 0, none⟩)), by rw [he, if_neg h], .inr ⟨by omega, _, rfl⟩⟩, hb⟩

set_option maxHeartbeats 4000000 in
set_option maxRecDepth 100000 in
theorem number_any (s : ByteArray) (w : World) (hs : s.size ≤ 4000) (h0 : 0 < runN digitB s.data.toList) (hE : ErrV w) :
    Calls Tryz.prog 38 #[.string s] w (TokPost (numR s.data.toList) w) := by
  have b0 : Below w.heap.size w (w.alloc (.cells (cellsT Tok.zero 0) 33)) := (Below.refl _ _).alloc (Nat.le_refl _) _
  have hn := runN_le digitB s.data.toList
  rw [size_list] at hn
  have HE := Lib.hid hE
  clear hE
  go_enter Tryz.func38, Tryz.ntmps38
  go_wp2_with fail
  refine (run_digit s _).mono ?_
  rintro e w1 ⟨rfl, b1⟩
  have bX := Blk.below (b := w.heap.size) (cs := cellsT Tok.zero 0) (t := 33) (Blk.at rfl) b1
  have hb := b0.trans (b1.mono b0.size)
  have hxl0 : w.heap.size < w1.heap.size := bX.lt
  clear b0 b1
  generalize hN : runN digitB s.data.toList = n at *
  have HN := Lib.hid hN
  clear hN
  go_wp2_with fail
  go_region
  rename_i K0 hK0
  change K0 _ _
  refine hK0 _ _ ?_
  clear hK0
  have bL : Blk ((w1.alloc (.cells #[.int .i64 2, .int .i64 0, .string ⟨#[]⟩] 31)).drew) w1.heap.size #[.int .i64 2, .int .i64 0, .string ⟨#[]⟩] 31 := (Blk.new _ _ _).drew
  replace bX : Blk ((w1.alloc (.cells #[.int .i64 2, .int .i64 0, .string ⟨#[]⟩] 31)).drew) w.heap.size (cellsT Tok.zero 0) 33 := (bX.alloc _).drew
  have hxl : w.heap.size < w1.heap.size := hxl0
  replace hb : Below w.heap.size w ((w1.alloc (.cells #[.int .i64 2, .int .i64 0, .string ⟨#[]⟩] 31)).drew) := (hb.alloc hb.size _).drew
  generalize (w1.alloc (.cells #[.int .i64 2, .int .i64 0, .string ⟨#[]⟩] 31)).drew = w2 at *
  generalize w1.heap.size = B at *
  go_wp2_with fail
  refine (fraction_any _ _).mono ?_
  rintro e w3 ⟨rfl, b3⟩
  rw [Lib.extract_to_end]
  replace bX := bX.below b3
  replace bL := bL.below b3
  replace hb := hb.trans (b3.mono hb.size)
  have HFD : Hid (numF s.data.toList = fracN (s.data.toList.drop n)) := by unfold Hid numF; rw [HN.out]
  have hfl := frac_le (s.data.toList.drop n)
  rw [List.length_drop, size_list] at hfl
  clear b3
  generalize hF : fracN (s.data.toList.drop n) = f at *
  have HF : Hid (numF s.data.toList = f) := HFD.out
  clear hF HFD
  have HNE : Hid (numD s.data.toList ≠ []) := numD_ne _ (by rw [HN.out]; exact h0)
  by_cases hf4 : 4 < f
  · have hf4i : (4 : Int) < f := by omega
    have HRR : Hid (numR s.data.toList = (Tok.zero, 0, 42)) := by unfold Hid numR; rw [HF.out, if_pos hf4]
    have y0 := bX.cell 0
    have y1 := bX.cell 1
    have y2 := bX.cell 2
    have y3 := bX.cell 3
    have y4 := bX.cell 4
    have y5 := bX.cell 5
    simp only [cellsT, Tok.zero, List.getElem?_toArray, List.getElem?_cons_zero, List.getElem?_cons_succ] at y0 y1 y2 y3 y4 y5
    have f0 := bX.frozen 0
    have f1 := bX.frozen 1
    have f2 := bX.frozen 2
    have f3 := bX.frozen 3
    have f4 := bX.frozen 4
    have f5 := bX.frozen 5
    clear bX bL hf4
    go_wp2_with fail
    rw [HRR.out]
    refine bodyPost_ret ?_ rfl ⟨rfl, ?_⟩
    · simp [results, Tryz.results38, go_sem, cellsT, Tok.zero, y0, y1, y2, y3, y4, y5]
    · exact (((((hb.setCell (Nat.le_refl _) _).setCell (Nat.le_refl _) _).setCell (Nat.le_refl _) _).setCell (Nat.le_refl _) _).setCell (Nat.le_refl _) _).setCell (Nat.le_refl _) _
  · have hf4i : (f : Int) ≤ 4 := by omega
    by_cases hf0 : 0 < f
    · have hf0i : (0 : Int) < f := by omega
      have hfz := hfl.2 hf0
      have l0 := bL.cell 0
      have l1 := bL.cell 1
      have l2 := bL.cell 2
      simp only [List.getElem?_toArray, List.getElem?_cons_zero, List.getElem?_cons_succ] at l0 l1 l2
      have g0 := bL.frozen 0
      have hd1 : (n + (1 + f) : Nat) ≤ s.size := by omega
      have hsz : s.size < 4611686018427387904 := by omega
      go_wp2_with fail
      have hLX0 : w.heap.size ≠ B := by omega
      replace bL : Blk (w3.setCell ⟨B, 0, none⟩ (.int .i64 3)) B #[.int .i64 3, .int .i64 0, .string ⟨#[]⟩] 31 := heap_setCell_same w3 B 0 _ 31 (.int .i64 3) bL
      replace bX : Blk (w3.setCell ⟨B, 0, none⟩ (.int .i64 3)) w.heap.size (cellsT Tok.zero 0) 33 := (Below.heap_setCell w3 ⟨B, 0, none⟩ (.int .i64 3) w.heap.size hLX0).trans bX
      replace hb : Below w.heap.size w (w3.setCell ⟨B, 0, none⟩ (.int .i64 3)) := hb.setCell (p := ⟨B, 0, none⟩) (Nat.le_of_lt hxl) _
      clear l0 l1 l2 g0 hLX0
      generalize w3.setCell ⟨B, 0, none⟩ (.int .i64 3) = w3b at *
      go_region
      replace bL := bL.drew
      replace bX := bX.drew
      replace hb := hb.drew
      generalize w3b.drew = w3c at *
      go_wp2_with fail
      have HD : Hid ((s.extract 0 n ++ (s.extract (n + (1 + f) - f) (n + (1 + f)) ++ (⟨#[48, 48, 48, 48]⟩ : ByteArray).extract f 4)).data.toList = numD s.data.toList) := by
        unfold Hid numD
        rw [HF.out, if_pos hf0, HN.out, ByteArray.data_append, ByteArray.data_append, Array.toList_append, Array.toList_append, Lib.extract_data, Lib.extract_data, noughts_ex f (by omega), List.drop_zero, Nat.sub_zero, List.drop_drop, show n + (1 + f) - f = n + 1 by omega, show n + (1 + f) - (n + 1) = f by omega]
      have HSZ : Hid (numN s.data.toList = n + (1 + f)) := by unfold Hid numN; rw [HF.out, if_pos hf0, HN.out]
      have hnl : (numD s.data.toList).length ≤ 8000 := by
        unfold numD
        rw [HF.out, if_pos hf0, List.length_append, List.length_append, List.length_take, List.length_take, List.length_replicate, HN.out]; omega
      generalize s.extract 0 n ++ (s.extract (n + (1 + f) - f) (n + (1 + f)) ++ (⟨#[48, 48, 48, 48]⟩ : ByteArray).extract f 4) = digs at *
      clear hfz hfl
      have hdz : digs.size ≤ 8000 := by have := congrArg List.length HD.out; rw [size_list] at this; omega
      refine (parse_any digs _ hdz (by rw [HD.out]; exact HNE.out) (by rw [HD.out]; exact numD_all _) (HE.out.below hb)).mono ?_
      rintro e w4 ⟨⟨er, rfl, her⟩, b4⟩
      rw [HD.out] at her ⊢
      replace bX := bX.below b4
      replace bL := bL.below b4
      replace hb := hb.trans (b4.mono hb.size)
      have hLX : w.heap.size ≠ B := by omega
      clear b4 hdz
      have HV := Lib.hid (numV_wrap (decF 0 (numD s.data.toList)))
      generalize hV : decF 0 (numD s.data.toList) = v at *
      have HVV := Lib.hid hV
      clear hV
      by_cases hbig : 9223372036854775808 < v
      · have HRR : Hid (numR s.data.toList = (Tok.zero, 0, 42)) := by unfold Hid numR; rw [HF.out, if_neg (by omega), if_pos (.inl (by rw [HVV.out]; exact hbig))]
        rcases her with ⟨hv, rfl⟩ | ⟨hv, p, rfl⟩
        · have hvi : (9223372036854775808 : Int) < v := by omega
          have hv0 : (if v ≤ 18446744073709551615 then (v : Int) else 18446744073709551615) = v := if_pos hv
          rw [hv0]
          clear hv hbig hv0
          have y0 := bX.cell 0
          have y1 := bX.cell 1
          have y2 := bX.cell 2
          have y3 := bX.cell 3
          have y4 := bX.cell 4
          have y5 := bX.cell 5
          simp only [cellsT, Tok.zero, List.getElem?_toArray, List.getElem?_cons_zero, List.getElem?_cons_succ] at y0 y1 y2 y3 y4 y5
          have f0 := bX.frozen 0
          have f1 := bX.frozen 1
          have f2 := bX.frozen 2
          have f3 := bX.frozen 3
          have f4 := bX.frozen 4
          have f5 := bX.frozen 5
          clear bX bL
          go_wp2_with fail
          rw [HRR.out]
          refine bodyPost_ret ?_ rfl ⟨rfl, ?_⟩
          · simp [results, Tryz.results38, go_sem, cellsT, Tok.zero, y0, y1, y2, y3, y4, y5]
          · exact (((((hb.setCell (Nat.le_refl _) _).setCell (Nat.le_refl _) _).setCell (Nat.le_refl _) _).setCell (Nat.le_refl _) _).setCell (Nat.le_refl _) _).setCell (Nat.le_refl _) _
        · have hv0 : (if v ≤ 18446744073709551615 then (v : Int) else 18446744073709551615) = 18446744073709551615 := if_neg (by omega)
          rw [hv0]
          clear hv hbig hv0
          have y0 := bX.cell 0
          have y1 := bX.cell 1
          have y2 := bX.cell 2
          have y3 := bX.cell 3
          have y4 := bX.cell 4
          have y5 := bX.cell 5
          simp only [cellsT, Tok.zero, List.getElem?_toArray, List.getElem?_cons_zero, List.getElem?_cons_succ] at y0 y1 y2 y3 y4 y5
          have f0 := bX.frozen 0
          have f1 := bX.frozen 1
          have f2 := bX.frozen 2
          have f3 := bX.frozen 3
          have f4 := bX.frozen 4
          have f5 := bX.frozen 5
          clear bX bL
          go_wp2_with fail
          rw [HRR.out]
          refine bodyPost_ret ?_ rfl ⟨rfl, ?_⟩
          · simp [results, Tryz.results38, go_sem, cellsT, Tok.zero, y0, y1, y2, y3, y4, y5]
          · exact (((((hb.setCell (Nat.le_refl _) _).setCell (Nat.le_refl _) _).setCell (Nat.le_refl _) _).setCell (Nat.le_refl _) _).setCell (Nat.le_refl _) _).setCell (Nat.le_refl _) _
      · rcases her with ⟨hv, rfl⟩ | ⟨hv, p, rfl⟩
        case inr => omega
        have hvi : (v : Int) ≤ 9223372036854775808 := by omega
        have hv0 : (if v ≤ 18446744073709551615 then (v : Int) else 18446744073709551615) = v := if_pos hv
        rw [hv0]
        clear hv hv0
        go_wp2_with fail
        refine (run_letter _ _).mono ?_
        rintro e w5 ⟨rfl, b5⟩
        rw [Lib.extract_to_end]
        replace bX := bX.below b5
        replace bL := bL.below b5
        replace hb := hb.trans (b5.mono hb.size)
        clear b5
        generalize hL : runN letterB (s.data.toList.drop (n + (1 + f))) = m at *
        have HLL := Lib.hid hL
        clear hL
        by_cases hm : 0 < m
        · have HRR : Hid (numR s.data.toList = (Tok.zero, 0, 42)) := by unfold Hid numR; rw [HF.out, if_neg (by omega), if_pos (.inr (by rw [HSZ.out, HLL.out]; exact hm))]
          have hmi : (0 : Int) < m := by omega
          have y0 := bX.cell 0
          have y1 := bX.cell 1
          have y2 := bX.cell 2
          have y3 := bX.cell 3
          have y4 := bX.cell 4
          have y5 := bX.cell 5
          simp only [cellsT, Tok.zero, List.getElem?_toArray, List.getElem?_cons_zero, List.getElem?_cons_succ] at y0 y1 y2 y3 y4 y5
          have f0 := bX.frozen 0
          have f1 := bX.frozen 1
          have f2 := bX.frozen 2
          have f3 := bX.frozen 3
          have f4 := bX.frozen 4
          have f5 := bX.frozen 5
          clear bX bL hm hbig
          go_wp2_with fail
          rw [HRR.out]
          refine bodyPost_ret ?_ rfl ⟨rfl, ?_⟩
          · simp [results, Tryz.results38, go_sem, cellsT, Tok.zero, y0, y1, y2, y3, y4, y5]
          · exact (((((hb.setCell (Nat.le_refl _) _).setCell (Nat.le_refl _) _).setCell (Nat.le_refl _) _).setCell (Nat.le_refl _) _).setCell (Nat.le_refl _) _).setCell (Nat.le_refl _) _
        · obtain rfl : m = 0 := by omega
          have HRR : Hid (numR s.data.toList = (⟨3, [], if 0 < f then 3 else 2, numV v, []⟩, (n + (1 + f)), 0)) := by
            unfold Hid numR
            rw [HF.out, if_neg (by omega), if_neg (by rw [HSZ.out, HLL.out, HVV.out]; omega), HSZ.out, HVV.out]
          have hwv := HV.out (by omega)
          have hLX2 : B ≠ w.heap.size := by omega
          have l0 := bL.cell 0
          have l1 := bL.cell 1
          have l2 := bL.cell 2
          simp only [List.getElem?_toArray, List.getElem?_cons_zero, List.getElem?_cons_succ] at l0 l1 l2
          have g1 := bL.frozen 1
          clear hm hbig bL
          have y0 := bX.cell 0
          have y1 := bX.cell 1
          have y2 := bX.cell 2
          have y3 := bX.cell 3
          have y4 := bX.cell 4
          have y5 := bX.cell 5
          simp only [cellsT, Tok.zero, List.getElem?_toArray, List.getElem?_cons_zero, List.getElem?_cons_succ] at y0 y1 y2 y3 y4 y5
          have f0 := bX.frozen 0
          have f1 := bX.frozen 1
          have f2 := bX.frozen 2
          have f3 := bX.frozen 3
          have f4 := bX.frozen 4
          have f5 := bX.frozen 5
          clear bX
          go_wp2_with fail
          rw [HRR.out]
          refine bodyPost_ret ?_ rfl ⟨rfl, ?_⟩
          · simp [results, Tryz.results38, go_sem, cellsT, hf0, y0, y1, y2, y3, y4, y5]
          · exact ((((((hb.setCell (p := ⟨B, 1, none⟩) (Nat.le_of_lt hxl) _).setCell (Nat.le_refl _) _).setCell (Nat.le_refl _) _).setCell (Nat.le_refl _) _).setCell (Nat.le_refl _) _).setCell (Nat.le_refl _) _).setCell (Nat.le_refl _) _
    · have hf00 : f = 0 := by omega
      have hf0i : ¬ (0 : Int) < f := by omega
      have HD : Hid ((s.extract 0 n).data.toList = numD s.data.toList) := by
        unfold Hid numD
        rw [HF.out, if_neg hf0, HN.out, List.append_nil, Lib.extract_data, List.drop_zero, Nat.sub_zero]
      have HSZ : Hid (numN s.data.toList = n) := by unfold Hid numN; rw [HF.out, if_neg hf0, HN.out]
      clear hf00 hfl
      go_wp2_with fail
      have hnl : (numD s.data.toList).length ≤ 8000 := by have := congrArg List.length HD.out; rw [size_list] at this; have h2 := congrArg List.length (Lib.extract_data s 0 n); rw [size_list, List.length_take, List.length_drop, size_list] at h2; omega
      generalize s.extract 0 n = digs at *
      have hdz : digs.size ≤ 8000 := by have := congrArg List.length HD.out; rw [size_list] at this; omega
      refine (parse_any digs _ hdz (by rw [HD.out]; exact HNE.out) (by rw [HD.out]; exact numD_all _) (HE.out.below hb)).mono ?_
      rintro e w4 ⟨⟨er, rfl, her⟩, b4⟩
      rw [HD.out] at her ⊢
      replace bX := bX.below b4
      replace bL := bL.below b4
      replace hb := hb.trans (b4.mono hb.size)
      have hLX : w.heap.size ≠ B := by omega
      clear b4 hdz
      have HV := Lib.hid (numV_wrap (decF 0 (numD s.data.toList)))
      generalize hV : decF 0 (numD s.data.toList) = v at *
      have HVV := Lib.hid hV
      clear hV
      by_cases hbig : 9223372036854775808 < v
      · have HRR : Hid (numR s.data.toList = (Tok.zero, 0, 42)) := by unfold Hid numR; rw [HF.out, if_neg (by omega), if_pos (.inl (by rw [HVV.out]; exact hbig))]
        rcases her with ⟨hv, rfl⟩ | ⟨hv, p, rfl⟩
        · have hvi : (9223372036854775808 : Int) < v := by omega
          have hv0 : (if v ≤ 18446744073709551615 then (v : Int) else 18446744073709551615) = v := if_pos hv
          rw [hv0]
          clear hv hbig hv0
          have y0 := bX.cell 0
          have y1 := bX.cell 1
          have y2 := bX.cell 2
          have y3 := bX.cell 3
          have y4 := bX.cell 4
          have y5 := bX.cell 5
          simp only [cellsT, Tok.zero, List.getElem?_toArray, List.getElem?_cons_zero, List.getElem?_cons_succ] at y0 y1 y2 y3 y4 y5
          have f0 := bX.frozen 0
          have f1 := bX.frozen 1
          have f2 := bX.frozen 2
          have f3 := bX.frozen 3
          have f4 := bX.frozen 4
          have f5 := bX.frozen 5
          clear bX bL
          go_wp2_with fail
          rw [HRR.out]
          refine bodyPost_ret ?_ rfl ⟨rfl, ?_⟩
          · simp [results, Tryz.results38, go_sem, cellsT, Tok.zero, y0, y1, y2, y3, y4, y5]
          · exact (((((hb.setCell (Nat.le_refl _) _).setCell (Nat.le_refl _) _).setCell (Nat.le_refl _) _).setCell (Nat.le_refl _) _).setCell (Nat.le_refl _) _).setCell (Nat.le_refl _) _
        · have hv0 : (if v ≤ 18446744073709551615 then (v : Int) else 18446744073709551615) = 18446744073709551615 := if_neg (by omega)
          rw [hv0]
          clear hv hbig hv0
          have y0 := bX.cell 0
          have y1 := bX.cell 1
          have y2 := bX.cell 2
          have y3 := bX.cell 3
          have y4 := bX.cell 4
          have y5 := bX.cell 5
          simp only [cellsT, Tok.zero, List.getElem?_toArray, List.getElem?_cons_zero, List.getElem?_cons_succ] at y0 y1 y2 y3 y4 y5
          have f0 := bX.frozen 0
          have f1 := bX.frozen 1
          have f2 := bX.frozen 2
          have f3 := bX.frozen 3
          have f4 := bX.frozen 4
          have f5 := bX.frozen 5
          clear bX bL
          go_wp2_with fail
          rw [HRR.out]
          refine bodyPost_ret ?_ rfl ⟨rfl, ?_⟩
          · simp [results, Tryz.results38, go_sem, cellsT, Tok.zero, y0, y1, y2, y3, y4, y5]
          · exact (((((hb.setCell (Nat.le_refl _) _).setCell (Nat.le_refl _) _).setCell (Nat.le_refl _) _).setCell (Nat.le_refl _) _).setCell (Nat.le_refl _) _).setCell (Nat.le_refl _) _
      · rcases her with ⟨hv, rfl⟩ | ⟨hv, p, rfl⟩
        case inr => omega
        have hvi : (v : Int) ≤ 9223372036854775808 := by omega
        have hv0 : (if v ≤ 18446744073709551615 then (v : Int) else 18446744073709551615) = v := if_pos hv
        rw [hv0]
        clear hv hv0
        go_wp2_with fail
        refine (run_letter _ _).mono ?_
        rintro e w5 ⟨rfl, b5⟩
        rw [Lib.extract_to_end]
        replace bX := bX.below b5
        replace bL := bL.below b5
        replace hb := hb.trans (b5.mono hb.size)
        clear b5
        generalize hL : runN letterB (s.data.toList.drop n) = m at *
        have HLL := Lib.hid hL
        clear hL
        by_cases hm : 0 < m
        · have HRR : Hid (numR s.data.toList = (Tok.zero, 0, 42)) := by unfold Hid numR; rw [HF.out, if_neg (by omega), if_pos (.inr (by rw [HSZ.out, HLL.out]; exact hm))]
          have hmi : (0 : Int) < m := by omega
          have y0 := bX.cell 0
          have y1 := bX.cell 1
          have y2 := bX.cell 2
          have y3 := bX.cell 3
          have y4 := bX.cell 4
          have y5 := bX.cell 5
          simp only [cellsT, Tok.zero, List.getElem?_toArray, List.getElem?_cons_zero, List.getElem?_cons_succ] at y0 y1 y2 y3 y4 y5
          have f0 := bX.frozen 0
          have f1 := bX.frozen 1
          have f2 := bX.frozen 2
          have f3 := bX.frozen 3
          have f4 := bX.frozen 4
          have f5 := bX.frozen 5
          clear bX bL hm hbig
          go_wp2_with fail
          rw [HRR.out]
          refine bodyPost_ret ?_ rfl ⟨rfl, ?_⟩
          · simp [results, Tryz.results38, go_sem, cellsT, Tok.zero, y0, y1, y2, y3, y4, y5]
          · exact (((((hb.setCell (Nat.le_refl _) _).setCell (Nat.le_refl _) _).setCell (Nat.le_refl _) _).setCell (Nat.le_refl _) _).setCell (Nat.le_refl _) _).setCell (Nat.le_refl _) _
        · obtain rfl : m = 0 := by omega
          have HRR : Hid (numR s.data.toList = (⟨3, [], if 0 < f then 3 else 2, numV v, []⟩, n, 0)) := by
            unfold Hid numR
            rw [HF.out, if_neg (by omega), if_neg (by rw [HSZ.out, HLL.out, HVV.out]; omega), HSZ.out, HVV.out]
          have hwv := HV.out (by omega)
          have hLX2 : B ≠ w.heap.size := by omega
          have l0 := bL.cell 0
          have l1 := bL.cell 1
          have l2 := bL.cell 2
          simp only [List.getElem?_toArray, List.getElem?_cons_zero, List.getElem?_cons_succ] at l0 l1 l2
          have g1 := bL.frozen 1
          clear hm hbig bL
          have y0 := bX.cell 0
          have y1 := bX.cell 1
          have y2 := bX.cell 2
          have y3 := bX.cell 3
          have y4 := bX.cell 4
          have y5 := bX.cell 5
          simp only [cellsT, Tok.zero, List.getElem?_toArray, List.getElem?_cons_zero, List.getElem?_cons_succ] at y0 y1 y2 y3 y4 y5
          have f0 := bX.frozen 0
          have f1 := bX.frozen 1
          have f2 := bX.frozen 2
          have f3 := bX.frozen 3
          have f4 := bX.frozen 4
          have f5 := bX.frozen 5
          clear bX
          go_wp2_with fail
          rw [HRR.out]
          refine bodyPost_ret ?_ rfl ⟨rfl, ?_⟩
          · simp [results, Tryz.results38, go_sem, cellsT, hf0, y0, y1, y2, y3, y4, y5]
          · exact ((((((hb.setCell (p := ⟨B, 1, none⟩) (Nat.le_of_lt hxl) _).setCell (Nat.le_refl _) _).setCell (Nat.le_refl _) _).setCell (Nat.le_refl _) _).setCell (Nat.le_refl _) _).setCell (Nat.le_refl _) _).setCell (Nat.le_refl _) _

end Go.Proofs.YtlmjijiepnefdaaGreatDoor
