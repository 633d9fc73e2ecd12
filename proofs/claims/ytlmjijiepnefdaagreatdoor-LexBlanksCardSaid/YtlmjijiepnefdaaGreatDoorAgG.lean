/-
  The law of tokens that are shown.
-/
import Derived.Test.YtlmjijiepnefdaaGreatDoorLexQ
namespace Go.Proofs.YtlmjijiepnefdaaGreatDoor
open Go.RowKit

theorem show_len {t : Tok} (h : TokOK t ∨ t = Tok.zero) : (showT t).length ≤ 2003 := by
  rcases h with h | rfl
  · cases h with
    | name c s hc ha hl hlow hw => exact Nat.le_trans hl (by decide)
    | word s h => exact Nat.le_trans (words_ok s h).2.2.2.1 (by decide)
    | sym s h =>
      have : ∀ s ∈ syms, s.length ≤ 2003 := by decide +kernel
      exact this s h
    | int v h => rw [show_int v h]; have := nd_le v (by omega); omega
    | dec v h =>
      rw [show_dec v h, List.length_append]
      have := nd_le (v / 10000) (by omega)
      show (Lib.decDigits (v / 10000)).length + 5 ≤ 2003
      omega
    | text v h hl => rw [show_text]; have := quoteL_len v; simp; omega
    | bytes v hl => rw [show_bytes]; have := hexL_len v; simp; omega
  · decide

/-- The first tokens, shown, each with a blank behind it. -/
def shown (L : List (Tok × Nat)) (k : Nat) : List UInt8 := joinT ((L.take k).map fun x => (x.1, [32]))
theorem shown_succ {L : List (Tok × Nat)} {k : Nat} {x : Tok × Nat} (h : L[k]? = some x) : shown L (k + 1) = shown L k ++ (showT x.1 ++ [32]) := by
  unfold shown
  rw [List.take_add_one, h, List.map_append, joinT_append]
  simp [joinT]
theorem shown_len {L : List (Tok × Nat)} (h : ∀ x ∈ L, TokOK x.1 ∨ x.1 = Tok.zero) : ∀ k, (shown L k).length ≤ k * 2004
  | 0 => by simp [shown, joinT]
  | k + 1 => by
    have ih := shown_len h k
    cases hx : L[k]? with
    | none =>
      have hk : L.length ≤ k := List.getElem?_eq_none_iff.1 hx
      have : shown L (k + 1) = shown L k := by unfold shown; rw [List.take_of_length_le hk, List.take_of_length_le (Nat.le_succ_of_le hk)]
      rw [this, Nat.add_mul]; exact Nat.le_trans ih (Nat.le_add_right _ _)
    | some x =>
      have := show_len (h x (List.mem_of_getElem? hx))
      rw [shown_succ hx, List.length_append, List.length_append]
      have e1 : ([32] : List UInt8).length = 1 := rfl
      rw [e1, Nat.add_mul]; omega
theorem sep_blank : SepOK [32] := ⟨⟨32, [], rfl, by decide⟩, gapSep_blank (by decide) gapSep_nil⟩
theorem shown_all (L : List (Tok × Nat)) (z : Nat) : shown (L ++ [(Tok.zero, z)]) (L.length + 1) = joinT (L.map fun x => (x.1, [32])) ++ [32] := by
  unfold shown
  rw [List.take_of_length_le (by simp), List.map_append, joinT_append]
  rfl
/-- All of them are the same tokens. -/
theorem shown_again (L : List (Tok × Nat)) (z : Nat) (hL : ∀ x ∈ L, TokOK x.1) (hl : L.length ≤ 1000) :
    (lexR (shown (L ++ [(Tok.zero, z)]) (L.length + 1))).2.1 = 0 ∧ (lexR (shown (L ++ [(Tok.zero, z)]) (L.length + 1))).1.map Prod.fst = (L ++ [(Tok.zero, z)]).map Prod.fst := by
  rw [shown_all]
  have h := lexR_join (L.map fun x => (x.1, [32])) [32] (by simpa using hl) (by
    intro x hx
    obtain ⟨y, hy, rfl⟩ := List.mem_map.1 hx
    exact ⟨hL y hy, sep_blank⟩) (gapSep_blank (by decide) gapSep_nil)
  refine ⟨h.1, ?_⟩
  rw [h.2, List.map_map, List.map_append]
  rfl

set_option maxHeartbeats 4000000 in
set_option maxRecDepth 100000 in
theorem again_any (s : ByteArray) (w : World) (hV : LexV w) (hP : Pow10 w) : Calls Tryz.prog 4 #[.string s] w (TruePost w) := by
  have HV := Lib.hid hV
  have HPw := Lib.hid hP
  have hQ : lexQ s = lexQ s := rfl
  clear hP
  go_enter Tryz.func4, Tryz.ntmps4
  go_wp2_with fail
  refine (lex_all s _ hV).mono ?_
  rintro e w2 ⟨⟨v, rfl, ho⟩, b2⟩
  by_cases h0 : (lexQ s).2.1 = 0
  · have hs4 : s.size ≤ 4000 := by
      by_cases h : s.size ≤ 4000
      · exact h
      · unfold lexQ at h0; rw [if_neg h] at h0; simp at h0
    have hq : lexQ s = lexR s.data.toList := by unfold lexQ; rw [if_pos hs4]
    rw [if_pos h0] at ho
    rw [hq] at h0 ho ⊢
    obtain ⟨L', hL1, hL2, hL3⟩ := lexR_ok s.data.toList h0
    rw [size_list] at hL1
    rw [hL1] at ho
    obtain ⟨n, hn⟩ : ∃ n, n = L'.length := ⟨_, rfl⟩
    have hlen : (L' ++ [(Tok.zero, s.size)]).length = n + 1 := by simp [hn]
    obtain ⟨va, cap, rfl⟩ := ho.slice
    obtain ⟨g, rfl, hg1, hg2, hlc, hcm, hcells⟩ := own_at ho (by omega)
    have hlast : (L' ++ [(Tok.zero, s.size)])[n]? = some (Tok.zero, s.size) := by rw [hn]; simp
    have c0 : w2.cell? ⟨g, n * 6, none⟩ = some (.int .i64 0) := hcells n _ _ hlast 0 _ rfl
    have c1 : w2.cell? ⟨g, n * 6 + 1, none⟩ = some (.string ⟨#[]⟩) := hcells n _ _ hlast 1 _ rfl
    have c2 : w2.cell? ⟨g, n * 6 + 2, none⟩ = some (.int .i64 0) := hcells n _ _ hlast 2 _ rfl
    have c3 : w2.cell? ⟨g, n * 6 + 3, none⟩ = some (.int .i64 0) := hcells n _ _ hlast 3 _ rfl
    have c4 : w2.cell? ⟨g, n * 6 + 4, none⟩ = some (.string ⟨#[]⟩) := hcells n _ _ hlast 4 _ rfl
    have c5 : w2.cell? ⟨g, n * 6 + 5, none⟩ = some (.int .i64 s.size) := hcells n _ _ hlast 5 _ rfl
    have HC := Lib.hid hcells
    have HO := Lib.hid ho
    have HL := Lib.hid (And.intro hL1 hL2)
    generalize hR : lexR s.data.toList = R at *
    obtain ⟨L, er, pl⟩ := R
    obtain rfl : er = 0 := h0
    rw [hlen] at hlc ⊢
    have hw1 : IntKind.i64.wrap ((n : Int) + 1 - 1) = (n : Int) := by rw [IntKind.wrap_i64]; omega
    have hd1 : decide ((n : Int) + 1 < 1) = false := by simp; omega
    have HN := Lib.hid hn
    have hn1 : n ≤ 1000 := by omega
    clear hcells ho hL1 hL2 hq hlast hn hlen hL3
    go_wp2_with fail
    have HS := Lib.hid (shown_again L' s.size HL.out.2 (by have := HN.out; omega))
    have HSl := Lib.hid (shown_len (L := L' ++ [(Tok.zero, s.size)]) (show ∀ x ∈ L' ++ [(Tok.zero, s.size)], TokOK x.1 ∨ x.1 = Tok.zero by
      intro x hx
      rw [List.mem_append] at hx
      rcases hx with hx | hx
      · exact .inl (HL.out.2 x hx)
      · rw [List.mem_singleton] at hx; subst hx; exact .inr rfl))
    have HZ : Hid (∀ (k : Nat) (t : Tok) (p : Nat), (L' ++ [(Tok.zero, s.size)])[k]? = some (t, p) → TokOK t ∨ t = Tok.zero) := by
      intro k t p hk
      have hx := List.mem_of_getElem? hk
      rw [List.mem_append] at hx
      rcases hx with hx | hx
      · exact .inl (HL.out.2 _ hx)
      · rw [List.mem_singleton] at hx
        exact .inr (Prod.mk.inj hx).1
    have HLen : Hid ((L' ++ [(Tok.zero, s.size)]).length = n + 1) := by unfold Hid; rw [List.length_append, ← HN.out]; rfl
    rw [← HN.out] at HS
    have HG2 := Lib.hid hg2
    have HB2 := Lib.hid b2
    clear HL HN hg2 b2 c0 c1 c2 c3 c4 c5 hR
    generalize L' ++ [(Tok.zero, s.size)] = LL at *
    go_loopw [6, 40] (fun t i wr => ∃ k : Nat, i = .int .i64 k ∧ k ≤ n + 1 ∧ Below w2.heap.size w2 wr ∧ t = .string ⟨(shown LL k).toArray⟩) (fun _ i _ => n + 1 - (intOf i).toNat)
    case atStart => exact ⟨0, rfl, Nat.zero_le _, Below.refl _ _, rfl⟩
    case round =>
      obtain ⟨k, rfl, hk, hb, rfl⟩ := hrel
      have hsl : (shown LL k).length ≤ 3000000 := by have := HSl.out k; omega
      by_cases hlt : k < n + 1
      · obtain ⟨t, p, htp⟩ : ∃ t p, LL[k]? = some (t, p) := by
          have := HLen.out
          exact ⟨LL[k].1, LL[k].2, List.getElem?_eq_getElem (by omega)⟩
        have HT := Lib.hid (HZ.out k t p htp)
        have hka := HC.out.below HG2.out hb
        have c0 : wr.cell? ⟨g, k * 6, none⟩ = _ := hka k t p htp 0 _ rfl
        have c1 : wr.cell? ⟨g, k * 6 + 1, none⟩ = _ := hka k t p htp 1 _ rfl
        have c2 : wr.cell? ⟨g, k * 6 + 2, none⟩ = _ := hka k t p htp 2 _ rfl
        have c3 : wr.cell? ⟨g, k * 6 + 3, none⟩ = _ := hka k t p htp 3 _ rfl
        have c4 : wr.cell? ⟨g, k * 6 + 4, none⟩ = _ := hka k t p htp 4 _ rfl
        have c5 : wr.cell? ⟨g, k * 6 + 5, none⟩ = some (.int .i64 p) := hka k t p htp 5 _ rfl
        have HSu := Lib.hid (shown_succ htp)
        have hln := show_len HT.out
        have hb3 : Below w2.heap.size w2 (wr.alloc (.cells (cellsT t p) 33)) := hb.alloc hb.size _
        clear hka htp hb
        generalize shown LL k = jt at *
        go_wp2_with fail
        refine (show_any t p _ HT.out (HPw.out.below (HB2.out.trans (hb3.mono HB2.out.size)))).mono ?_
        rintro e w5 ⟨rfl, b5⟩
        have hb5 := hb3.trans (b5.mono hb3.size)
        clear c0 c1 c2 c3 c4 c5 hb3 b5
        generalize showT t = st at *
        go_wp2_with fail
        go_roundw
        case rel =>
          refine ⟨k + 1, by go_num, by omega, hb5, str_val _ _ ?_⟩
          rw [HSu.out]
          simp [ByteArray.data_append]
        case measure => simp [intOf]; omega
      · obtain rfl : k = n + 1 := by omega
        by_cases h4 : (shown LL (n + 1)).length ≤ 4000
        · have h4i : ¬ (4000 : Int) < ((shown LL (n + 1)).length : Int) := by omega
          have h4s : (⟨(shown LL (n + 1)).toArray⟩ : ByteArray).size ≤ 4000 := h4
          have HQ2 : Hid (lexQ ⟨(shown LL (n + 1)).toArray⟩ = lexR (shown LL (n + 1))) := by unfold Hid lexQ; rw [if_pos h4s]
          generalize shown LL (n + 1) = jt at *
          have hbw := HB2.out.trans (hb.mono HB2.out.size)
          have hgr : g < wr.heap.size := Nat.lt_of_lt_of_le HG2.out hb.size
          have hca := HC.out.below HG2.out hb
          clear hb hsl
          go_wp2_with fail
          refine (lex_all _ _ (HV.out.below hbw)).mono ?_
          rintro e w6 ⟨⟨v6, rfl, ho6⟩, b6⟩
          rw [HQ2.out] at ho6 ⊢
          obtain ⟨hs1, hs2⟩ := HS.out
          rw [if_pos hs1] at ho6
          clear HQ2 HS HSl
          generalize lexR jt = R2 at *
          obtain ⟨M, e2, pl2⟩ := R2
          obtain rfl : e2 = 0 := hs1
          simp only [] at ho6 hs2
          obtain ⟨vb, capb, rfl⟩ := ho6.slice
          have hlM : M.length = n + 1 := by
            have := congrArg List.length hs2
            rw [List.length_map, List.length_map, HLen.out] at this
            exact this
          obtain ⟨gb, rfl, _, hgb, _, _, hcb⟩ := own_at ho6 (by omega)
          have hca6 := hca.below hgr b6
          have hga6 : g < w6.heap.size := Nat.lt_of_lt_of_le hgr b6.size
          have hbw6 := hbw.trans (b6.mono hbw.size)
          have HSame := Lib.hid (same_some false LL M g gb cap capb w6 hga6 hgb hca6 hcb (by rw [HLen.out]; omega) hs2.symm (fun h => by cases h))
          rw [HLen.out, hlM] at HSame
          rw [hlM]
          clear hca hca6 hcb ho6 hs2 hlM HLen hbw b6
          go_wp2_with fail
          refine HSame.out.mono ?_
          rintro e w7 ⟨rfl, b7⟩
          go_wp2
          go_ret
          exact ⟨rfl, hbw6.trans (b7.mono hbw6.size)⟩
        · have h4i : (4000 : Int) < ((shown LL (n + 1)).length : Int) := by omega
          generalize shown LL (n + 1) = jt at *
          go_wp2_with fail
          go_ret
          exact ⟨rfl, HB2.out.trans (hb.mono HB2.out.size)⟩
  · rw [if_neg h0] at ho
    subst ho
    generalize lexQ s = R at *
    have hn : (R.2.1 != 0) = true := by simpa using h0
    have hn2 : (R.2.1 == 0) = false := by simpa using h0
    go_wp2_with fail
    go_ret
    exact ⟨rfl, b2⟩

end Go.Proofs.YtlmjijiepnefdaaGreatDoor
