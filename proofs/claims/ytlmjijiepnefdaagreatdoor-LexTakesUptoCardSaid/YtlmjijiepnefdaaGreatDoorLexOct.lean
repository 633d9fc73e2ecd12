/-
  The contract of lex's octets.
-/
import Derived.Test.YtlmjijiepnefdaaGreatDoorLexHex
import Derived.Test.YtlmjijiepnefdaaGreatDoorShelf2
import Derived.BigFrame
import Derived.Shelf.Strings.MapGrows
namespace Go.Proofs.YtlmjijiepnefdaaGreatDoor
open Go.RowKit

/-- The bytes that pairs of digits spell. -/
def pairB : List UInt8 → List UInt8
  | a :: b :: l => UInt8.ofNat (nibV a * 16 + nibV b) :: pairB l
  | _ => []
theorem pairB_cons (a b : UInt8) (l : List UInt8) : pairB (a :: b :: l) = UInt8.ofNat (nibV a * 16 + nibV b) :: pairB l := by rw [pairB]
theorem pairB_nil : pairB [] = [] := by rw [pairB]; intro a b l h; exact absurd h (by simp)
theorem pairB_append (n : Nat) : ∀ (l m : List UInt8), l.length = 2 * n → pairB (l ++ m) = pairB l ++ pairB m := by
  induction n with
  | zero => intro l m h; obtain rfl := List.eq_nil_of_length_eq_zero (by omega : l.length = 0); rw [pairB_nil]; rfl
  | succ n ih =>
    intro l m h
    match l, h with
    | a :: b :: l, h =>
      rw [List.cons_append, List.cons_append, pairB_cons, pairB_cons, List.cons_append, ih l m (by simp at h; omega)]
theorem pairB_len (n : Nat) : ∀ l : List UInt8, l.length = 2 * n → (pairB l).length = n := by
  induction n with
  | zero => intro l h; obtain rfl := List.eq_nil_of_length_eq_zero (by omega : l.length = 0); rw [pairB_nil]; rfl
  | succ n ih =>
    intro l h
    match l, h with
    | a :: b :: l, h => rw [pairB_cons, List.length_cons, ih l (by simp at h; omega)]

theorem pair_step (l : List UInt8) (m : Nat) (hm : m % 2 = 0) (h : m + 2 ≤ l.length) : pairB (l.take (m + 2)) = pairB (l.take m) ++ [UInt8.ofNat (hexF 0 ((l.drop m).take 2))] := by
  rw [List.take_add, pairB_append (m / 2) _ _ (by rw [List.length_take]; omega)]
  have hd : 2 ≤ (l.drop m).length := by rw [List.length_drop]; omega
  match l.drop m, hd with
  | a :: b :: r, _ =>
    show _ ++ pairB [a, b] = _ ++ [UInt8.ofNat (hexF 0 [a, b])]
    rw [pairB_cons, pairB_nil, hexF_cons, hexF_cons, Nat.zero_mul, Nat.zero_add]
    rfl
theorem nib_le : ∀ c : UInt8, hexB c = true → nibV c ≤ 15 := u8_all _ (by decide +kernel)
theorem hex_two (l : List UInt8) (h : l.length = 2) (hx : ∀ c ∈ l, hexB c = true) : hexF 0 l ≤ 255 := by
  match l, h with
  | [a, b], _ =>
    have h1 := nib_le a (hx a (by simp))
    have h2 := nib_le b (hx b (by simp))
    rw [hexF_cons, hexF_cons]
    show (0 * 16 + nibV a) * 16 + nibV b ≤ 255
    omega

def octN (l : List UInt8) : Nat := runN hexB (l.drop 2)
def octR (l : List UInt8) : Tok × Nat × Int :=
  if octN l = (l.drop 2).length then (Tok.zero, 0, 41)
  else if (l.drop 2).getD (octN l) 0 ≠ 39 ∨ octN l % 2 ≠ 0 then (Tok.zero, 0, 42)
  else if 1000 < octN l / 2 then (Tok.zero, 0, 2)
  else (⟨3, [], 5, 0, pairB ((l.drop 2).take (octN l))⟩, 3 + octN l, 0)

set_option maxHeartbeats 4000000 in
set_option maxRecDepth 100000 in
theorem octets_any (s : ByteArray) (w : World) (hs2 : 2 ≤ s.size) (hs : s.size ≤ 4000) :
    Calls Tryz.prog 34 #[.string s] w (TokPost (octR s.data.toList) w) := by
  have b0 : Below w.heap.size w (w.alloc (.cells (cellsT Tok.zero 0) 33)) := (Below.refl _ _).alloc (Nat.le_refl _) _
  go_enter Tryz.func34, Tryz.ntmps34
  go_wp2_with fail
  refine (run_hex _ _).mono ?_
  rintro e w1 ⟨rfl, b1⟩
  rw [Lib.extract_to_end]
  have hds : (s.extract 2 s.size).size = s.size - 2 := by
    have := congrArg List.length (Lib.extract_to_end s 2)
    rw [size_list, List.length_drop, size_list] at this; exact this
  have hdl := Lib.extract_to_end s 2
  generalize s.extract 2 s.size = d at *
  have bX := Blk.below (b := w.heap.size) (cs := cellsT Tok.zero 0) (t := 33) (Blk.at rfl) b1
  have hb := b0.trans (b1.mono b0.size)
  clear b0 b1
  have hn := runN_le hexB d.data.toList
  rw [size_list] at hn
  rw [← hdl]
  have HA := Lib.hid (run_all hexB d.data.toList)
  generalize hN : runN hexB d.data.toList = n at *
  have hd4 : d.size ≤ 4000 := by omega
  clear hds
  have hON : octN s.data.toList = n := by unfold octN; rw [← hdl]; exact hN
  have HR : Hid (octR s.data.toList = if n = d.size then (Tok.zero, 0, 41) else if d.data.toList.getD n 0 ≠ 39 ∨ n % 2 ≠ 0 then (Tok.zero, 0, 42) else if 1000 < n / 2 then (Tok.zero, 0, 2) else (⟨3, [], 5, 0, pairB (d.data.toList.take n)⟩, 3 + n, 0)) := by
    unfold Hid octR
    rw [hON, ← hdl, size_list]
  clear hN hON hdl
  by_cases hnd : n = d.size
  · have HRR : Hid (octR s.data.toList = (Tok.zero, 0, 41)) := by unfold Hid; rw [HR.out, if_pos hnd]
    have hni : (n : Int) = (d.size : Int) := by omega
    clear HR
    have y0 := bX.cell 0
    have y1 := bX.cell 1
    have y2 := bX.cell 2
    have y3 := bX.cell 3
    have y4 := bX.cell 4
    have y5 := bX.cell 5
    simp only [cellsT, Tok.zero, List.getElem?_toArray, List.getElem?_cons_zero, List.getElem?_cons_succ] at y0 y1 y2 y3 y4 y5
    have f0 := bX.frozen 0
    have f1 := bX.frozen 1
    have f2 := bX.frozen 2
    have f3 := bX.frozen 3
    have f4 := bX.frozen 4
    have f5 := bX.frozen 5
    clear bX
    go_wp2_with fail
    rw [HRR.out]
    refine bodyPost_ret ?_ rfl ⟨rfl, ?_⟩
    · simp [results, Tryz.results34, go_sem, cellsT, Tok.zero, y0, y1, y2, y3, y4, y5]
    · exact (((((hb.setCell (Nat.le_refl _) _).setCell (Nat.le_refl _) _).setCell (Nat.le_refl _) _).setCell (Nat.le_refl _) _).setCell (Nat.le_refl _) _).setCell (Nat.le_refl _) _
  · have hni : ¬ (n : Int) = (d.size : Int) := by omega
    have hlt : n < d.size := by omega
    have hg : d.data.toList.getD n 0 = d[n] := by
      rw [List.getD_eq_getElem?_getD, List.getElem?_eq_getElem (by simpa using hlt)]; rfl
    by_cases h39 : d[n].toNat = 39
    · by_cases h2 : n % 2 = 0
      · have hHR : octR s.data.toList = if 1000 < n / 2 then (Tok.zero, 0, 2) else (⟨3, [], 5, 0, pairB (d.data.toList.take n)⟩, 3 + n, 0) := by
          rw [HR.out, if_neg hnd, if_neg]
          rintro (h | h)
          · exact h (by rw [hg]; exact UInt8.toNat_inj.1 h39)
          · exact h h2
        have h2i : (n : Int) % 2 = 0 := by omega
        by_cases hl : 1000 < n / 2
        · have HRR : Hid (octR s.data.toList = (Tok.zero, 0, 2)) := by unfold Hid; rw [hHR, if_pos hl]
          have hli : 1000 < (n : Int) / 2 := by omega
          clear HR hHR hg
          have y0 := bX.cell 0
          have y1 := bX.cell 1
          have y2 := bX.cell 2
          have y3 := bX.cell 3
          have y4 := bX.cell 4
          have y5 := bX.cell 5
          simp only [cellsT, Tok.zero, List.getElem?_toArray, List.getElem?_cons_zero, List.getElem?_cons_succ] at y0 y1 y2 y3 y4 y5
          have f0 := bX.frozen 0
          have f1 := bX.frozen 1
          have f2 := bX.frozen 2
          have f3 := bX.frozen 3
          have f4 := bX.frozen 4
          have f5 := bX.frozen 5
          clear bX
          go_wp2_with fail
          rw [HRR.out]
          refine bodyPost_ret ?_ rfl ⟨rfl, ?_⟩
          · simp [results, Tryz.results34, go_sem, cellsT, Tok.zero, y0, y1, y2, y3, y4, y5]
          · exact (((((hb.setCell (Nat.le_refl _) _).setCell (Nat.le_refl _) _).setCell (Nat.le_refl _) _).setCell (Nat.le_refl _) _).setCell (Nat.le_refl _) _).setCell (Nat.le_refl _) _
        · have HRR : Hid (octR s.data.toList = (⟨3, [], 5, 0, pairB (d.data.toList.take n)⟩, 3 + n, 0)) := by unfold Hid; rw [hHR, if_neg hl]
          have hli : (n : Int) / 2 ≤ 1000 := by omega
          clear HR hHR hg
          go_wp2_with fail
          clear h2i
          have hbf : ((n : Int) == (d.size : Int)) = false := by simpa using hni
          rw [hbf]
          have hw1 : w.heap.size < w1.heap.size := bX.lt
          have hB0 : Lib.IsBuilderF 67 5 w1.heap.size w1.heap.size [] (w1.alloc (.cells #[.pointer none, .slice none 0 0] 67)) := Lib.IsBuilderF.of (Lib.fresh_isBuilder 67 5 w1)
          have b0 : Below w1.heap.size w1 (w1.alloc (.cells #[.pointer none, .slice none 0 0] 67)) := (Below.refl _ w1).alloc (Nat.le_refl _) _
          generalize hBq : w1.heap.size = B at *
          have HQ := Lib.hid hBq
          clear hBq
          go_loopw [8, 9] (fun i _ wr => ∃ m : Nat, m ≤ n ∧ m % 2 = 0 ∧ i = .int .i64 m ∧ Below B w1 wr ∧ Lib.IsBuilderF 67 5 B B (Lib.byteCells (pairB (d.data.toList.take m))) wr) (fun i _ _ => n - (intOf i).toNat)
          case atStart => exact ⟨0, Nat.zero_le _, rfl, rfl, b0, by rw [List.take_zero, pairB_nil]; exact hB0⟩
          case round =>
            obtain ⟨m, hm, hm2, rfl, bk, hB⟩ := hrel
            have hBr : B ≤ wr.heap.size := by have := bk.size; rw [HQ.out] at this; exact this
            by_cases hlt2 : m < n
            · have hm22 : m + 2 ≤ n := by omega
              go_wp2_with fail
              have hex2 : (d.extract m (m + 2)).data.toList = (d.data.toList.drop m).take 2 := by rw [Lib.extract_data, show m + 2 - m = 2 by omega]
              have hdl2 : ((d.data.toList.drop m).take 2).length = 2 := by rw [List.length_take, List.length_drop, size_list]; omega
              have hxx : ∀ c ∈ (d.data.toList.drop m).take 2, hexB c = true := by
                intro c hc
                refine HA.out c ?_
                have h3 : (d.data.toList.drop m).take 2 = (d.data.toList.take (m + 2)).drop m := by rw [List.drop_take, show m + 2 - m = 2 by omega]
                rw [h3] at hc
                have h4 := List.mem_of_mem_drop hc
                have h5 : d.data.toList.take (m + 2) = (d.data.toList.take n).take (m + 2) := by rw [List.take_take, Nat.min_eq_left hm22]
                rw [h5] at h4
                exact List.mem_of_mem_take h4
              refine (parse16 (d.extract m (m + 2)) (by rw [← size_list, hex2, hdl2]) (by rw [hex2]; exact hxx) _).mono ?_
              rintro e w3 ⟨rfl, b3⟩
              have hv := hex_two _ hdl2 hxx
              have HS := Lib.hid (pair_step d.data.toList m hm2 (by rw [size_list]; omega))
              rw [hex2]
              have bk3 := bk.trans (b3.mono hBr)
              have hBr3 : B ≤ w3.heap.size := Nat.le_trans hBr b3.size
              have hB3 := Lib.IsBuilderF.below hB b3
              clear hB b3 hxx hdl2 hex2 bk
              generalize hexF 0 ((d.data.toList.drop m).take 2) = v at *
              have hl : (Lib.byteCells (pairB (d.data.toList.take m))).length + 1 ≤ 140737488355328 := by
                rw [Lib.byteCells_length, pairB_len (m / 2) _ (by rw [List.length_take, size_list]; omega)]; omega
              have HL := Lib.hid hl
              clear hl
              go_wp2_with fail
              refine (Tryz.Builder_WriteByte_k B B _ _ _ hB3 HL.out hBr3).mono ?_
              rintro e w4 ⟨rfl, h4, b4, _⟩
              have bk4 := bk3.trans b4
              have h5 : Lib.IsBuilderF 67 5 B B (Lib.byteCells (pairB (d.data.toList.take (m + 2)))) w4 := by
                refine Or.inr ?_
                rw [HS.out]
                have e : ∀ l : List UInt8, Lib.byteCells (l ++ [UInt8.ofNat v]) = Lib.byteCells l ++ [.int .u8 v] := by
                  intro l
                  have : (UInt8.ofNat v).toNat = v := by simp; omega
                  simp [Lib.byteCells, this]
                rw [e]; exact h4
              clear h4 hB3 b4 bk3
              go_wp2_with fail
              go_roundw
              case rel =>
                exact ⟨m + 2, hm22, by omega, by go_num, bk4, h5⟩
              case measure => simp [intOf]; omega
            · have : m = n := by omega
              subst this
              go_wp2_with fail
              refine (Tryz.Builder_String_any_k B B _ _ hB hBr).mono ?_
              rintro e w3 ⟨rfl, _, b3, _⟩
              have bk3 := bk.trans b3
              clear bk hB
              go_wp2_with fail
              refine (literal_any _ _ _).mono ?_
              rintro e w4 ⟨rfl, b4⟩
              have bk4 := bk3.trans (b4.mono (Nat.le_trans hBr b3.size))
              replace bX := bX.below (by rw [HQ.out]; exact bk4)
              replace hb := hb.trans (bk4.mono (Nat.le_of_lt hw1))
              clear b4 bk4 bk3 b3
              have y0 := bX.cell 0
              have y1 := bX.cell 1
              have y2 := bX.cell 2
              have y3 := bX.cell 3
              have y4 := bX.cell 4
              have y5 := bX.cell 5
              simp only [cellsT, Tok.zero, List.getElem?_toArray, List.getElem?_cons_zero, List.getElem?_cons_succ] at y0 y1 y2 y3 y4 y5
              have f0 := bX.frozen 0
              have f1 := bX.frozen 1
              have f2 := bX.frozen 2
              have f3 := bX.frozen 3
              have f4 := bX.frozen 4
              have f5 := bX.frozen 5
              clear bX
              go_wp2_with fail
              rw [HRR.out]
              refine bodyPost_ret ?_ rfl ⟨rfl, ?_⟩
              · simp [results, Tryz.results34, go_sem, cellsT, y0, y1, y2, y3, y4, y5]
              · exact (((((hb.setCell (Nat.le_refl _) _).setCell (Nat.le_refl _) _).setCell (Nat.le_refl _) _).setCell (Nat.le_refl _) _).setCell (Nat.le_refl _) _).setCell (Nat.le_refl _) _
      · have HRR : Hid (octR s.data.toList = (Tok.zero, 0, 42)) := by unfold Hid; rw [HR.out, if_neg hnd, if_pos (.inr h2)]
        have h2i : (n : Int) % 2 = 1 := by omega
        clear HR hg
        have y0 := bX.cell 0
        have y1 := bX.cell 1
        have y2 := bX.cell 2
        have y3 := bX.cell 3
        have y4 := bX.cell 4
        have y5 := bX.cell 5
        simp only [cellsT, Tok.zero, List.getElem?_toArray, List.getElem?_cons_zero, List.getElem?_cons_succ] at y0 y1 y2 y3 y4 y5
        have f0 := bX.frozen 0
        have f1 := bX.frozen 1
        have f2 := bX.frozen 2
        have f3 := bX.frozen 3
        have f4 := bX.frozen 4
        have f5 := bX.frozen 5
        clear bX
        go_wp2_with fail
        rw [HRR.out]
        refine bodyPost_ret ?_ rfl ⟨rfl, ?_⟩
        · simp [results, Tryz.results34, go_sem, cellsT, Tok.zero, y0, y1, y2, y3, y4, y5]
        · exact (((((hb.setCell (Nat.le_refl _) _).setCell (Nat.le_refl _) _).setCell (Nat.le_refl _) _).setCell (Nat.le_refl _) _).setCell (Nat.le_refl _) _).setCell (Nat.le_refl _) _
    · have HRR : Hid (octR s.data.toList = (Tok.zero, 0, 42)) := by
        have hne : d.data.toList.getD n 0 ≠ 39 := by
          rw [hg]
          intro h
          exact h39 (by rw [h]; rfl)
        unfold Hid
        rw [HR.out, if_neg hnd, if_pos (.inl hne)]
      have h39i : ¬ (d[n].toNat : Int) = 39 := by omega
      clear HR hg
      have y0 := bX.cell 0
      have y1 := bX.cell 1
      have y2 := bX.cell 2
      have y3 := bX.cell 3
      have y4 := bX.cell 4
      have y5 := bX.cell 5
      simp only [cellsT, Tok.zero, List.getElem?_toArray, List.getElem?_cons_zero, List.getElem?_cons_succ] at y0 y1 y2 y3 y4 y5
      have f0 := bX.frozen 0
      have f1 := bX.frozen 1
      have f2 := bX.frozen 2
      have f3 := bX.frozen 3
      have f4 := bX.frozen 4
      have f5 := bX.frozen 5
      clear bX
      go_wp2_with fail
      rw [HRR.out]
      refine bodyPost_ret ?_ rfl ⟨rfl, ?_⟩
      · simp [results, Tryz.results34, go_sem, cellsT, Tok.zero, y0, y1, y2, y3, y4, y5]
      · exact (((((hb.setCell (Nat.le_refl _) _).setCell (Nat.le_refl _) _).setCell (Nat.le_refl _) _).setCell (Nat.le_refl _) _).setCell (Nat.le_refl _) _).setCell (Nat.le_refl _) _

end Go.Proofs.YtlmjijiepnefdaaGreatDoor
