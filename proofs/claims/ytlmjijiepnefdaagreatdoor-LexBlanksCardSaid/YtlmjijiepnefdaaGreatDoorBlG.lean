/-
  The law of blanks and comments between tokens.
-/
import Derived.Test.YtlmjijiepnefdaaGreatDoorAgG
namespace Go.Proofs.YtlmjijiepnefdaaGreatDoor
open Go.RowKit

/-- What stands behind a token, by a number. -/
def sepM (z : Int) : List UInt8 := 10 :: (if Int.tmod z 4 == 1 then [32, 9, 13, 10] else if Int.tmod z 4 == 2 then [45, 45, 32, 105, 116, 39, 115, 32, 40, 10] else if Int.tmod z 4 == 3 then [45, 45, 10, 45, 45, 10] else [])
theorem sepM_ok (z : Int) : SepOK (sepM z) := by
  refine ⟨⟨10, _, rfl, by decide⟩, ?_⟩
  unfold sepM
  refine gapSep_blank (by decide) ?_
  split
  · exact gapSep_blank (by decide) (gapSep_blank (by decide) (gapSep_blank (by decide) (gapSep_blank (by decide) gapSep_nil)))
  · split
    · exact gapSep_comment (c := [32, 105, 116, 39, 115, 32, 40]) (by decide) gapSep_nil
    · split
      · exact gapSep_comment (c := []) (by decide) (gapSep_comment (c := []) (by decide) gapSep_nil)
      · exact gapSep_nil
theorem sepM_len (z : Int) : (sepM z).length ≤ 11 := by
  unfold sepM
  split
  · decide
  · split
    · decide
    · split <;> decide
def sepZ (Z : List Int) (i : Nat) : List UInt8 := if i < Z.length then sepM (Z.getD i 0) else [10]
theorem sepZ_ok (Z : List Int) (i : Nat) : SepOK (sepZ Z i) := by
  unfold sepZ
  split
  · exact sepM_ok _
  · exact ⟨⟨10, [], rfl, by decide⟩, gapSep_blank (by decide) gapSep_nil⟩
theorem sepZ_len (Z : List Int) (i : Nat) : (sepZ Z i).length ≤ 11 := by
  unfold sepZ
  split
  · exact sepM_len _
  · decide

def seqs (Z : List Int) : Nat → List (Tok × Nat) → List (Tok × List UInt8)
  | _, [] => []
  | i, x :: l => (x.1, sepZ Z i) :: seqs Z (i + 1) l
theorem seqs_len (Z : List Int) : ∀ (l : List (Tok × Nat)) (i : Nat), (seqs Z i l).length = l.length
  | [], _ => rfl
  | x :: l, i => by rw [seqs, List.length_cons, seqs_len Z l (i + 1), List.length_cons]
theorem seqs_get (Z : List Int) : ∀ (l : List (Tok × Nat)) (i k : Nat) (x : Tok × Nat), l[k]? = some x → (seqs Z i l)[k]? = some (x.1, sepZ Z (i + k))
  | [], _, _, _, h => by simp at h
  | y :: l, i, 0, x, h => by
    obtain rfl : y = x := by simpa using h
    rfl
  | y :: l, i, k + 1, x, h => by
    rw [seqs, List.getElem?_cons_succ, seqs_get Z l (i + 1) k x (by simpa using h), Nat.add_right_comm, Nat.add_assoc]
theorem seqs_append (Z : List Int) : ∀ (a b : List (Tok × Nat)) (i : Nat), seqs Z i (a ++ b) = seqs Z i a ++ seqs Z (i + a.length) b
  | [], b, i => rfl
  | x :: a, b, i => by rw [List.cons_append, seqs, seqs, seqs_append Z a b (i + 1), List.length_cons, List.cons_append, Nat.add_right_comm, Nat.add_assoc]
theorem seqs_fst (Z : List Int) : ∀ (l : List (Tok × Nat)) (i : Nat), (seqs Z i l).map Prod.fst = l.map Prod.fst
  | [], _ => rfl
  | x :: l, i => by rw [seqs, List.map_cons, seqs_fst Z l (i + 1), List.map_cons]
theorem seqs_ok (Z : List Int) : ∀ (l : List (Tok × Nat)) (i : Nat), (∀ x ∈ l, TokOK x.1) → ∀ x ∈ seqs Z i l, TokOK x.1 ∧ SepOK x.2
  | [], _, _, x, hx => by simp [seqs] at hx
  | y :: l, i, h, x, hx => by
    rw [seqs, List.mem_cons] at hx
    rcases hx with rfl | hx
    · exact ⟨h y (by simp), sepZ_ok Z i⟩
    · exact seqs_ok Z l (i + 1) (fun z hz => h z (by simp [hz])) x hx

/-- The first tokens, shown, with blanks and comments behind each. -/
def blanked (Z : List Int) (L : List (Tok × Nat)) (k : Nat) : List UInt8 := joinT ((seqs Z 0 L).take k)
theorem blanked_succ (Z : List Int) {L : List (Tok × Nat)} {k : Nat} {x : Tok × Nat} (h : L[k]? = some x) : blanked Z L (k + 1) = blanked Z L k ++ (showT x.1 ++ sepZ Z k) := by
  unfold blanked
  rw [List.take_add_one, seqs_get Z L 0 k x h, joinT_append, Nat.zero_add]
  simp [joinT]
theorem blanked_len (Z : List Int) {L : List (Tok × Nat)} (h : ∀ x ∈ L, TokOK x.1 ∨ x.1 = Tok.zero) : ∀ k, (blanked Z L k).length ≤ k * 2014
  | 0 => by simp [blanked, joinT]
  | k + 1 => by
    have ih := blanked_len Z h k
    cases hx : L[k]? with
    | none =>
      have hk : (seqs Z 0 L).length ≤ k := by rw [seqs_len]; exact List.getElem?_eq_none_iff.1 hx
      have : blanked Z L (k + 1) = blanked Z L k := by unfold blanked; rw [List.take_of_length_le hk, List.take_of_length_le (Nat.le_succ_of_le hk)]
      rw [this, Nat.add_mul]; exact Nat.le_trans ih (Nat.le_add_right _ _)
    | some x =>
      have := show_len (h x (List.mem_of_getElem? hx))
      have h2 := sepZ_len Z k
      rw [blanked_succ Z hx, List.length_append, List.length_append, Nat.add_mul]
      omega
theorem blanked_again (Z : List Int) (L : List (Tok × Nat)) (z : Nat) (hL : ∀ x ∈ L, TokOK x.1) (hl : L.length ≤ 1000) :
    (lexR (blanked Z (L ++ [(Tok.zero, z)]) (L.length + 1))).2.1 = 0 ∧ (lexR (blanked Z (L ++ [(Tok.zero, z)]) (L.length + 1))).1.map Prod.fst = (L ++ [(Tok.zero, z)]).map Prod.fst := by
  have e : blanked Z (L ++ [(Tok.zero, z)]) (L.length + 1) = joinT (seqs Z 0 L) ++ sepZ Z L.length := by
    unfold blanked
    rw [List.take_of_length_le (by rw [seqs_len]; simp), seqs_append, joinT_append, Nat.zero_add]
    simp [seqs, joinT, showT, Tok.zero]
  rw [e]
  have h := lexR_join (seqs Z 0 L) (sepZ Z L.length) (by rw [seqs_len]; exact hl) (seqs_ok Z L 0 hL) (sepZ_ok Z L.length).2
  refine ⟨h.1, ?_⟩
  rw [h.2, seqs_fst, List.map_append]
  rfl

theorem bounds_i64 {x : Int} (wx : (Lit.int .i64 x).wf = true) : -9223372036854775808 ≤ x ∧ x ≤ 9223372036854775807 := by
  simpa [Lit.wf, IntKind.min, IntKind.max, IntKind.signed, IntKind.bits] using wx

/-- A slice of numbers that came in. -/
def IntsV (w : World) (v : Value) (Z : List Int) : Prop := ∃ av capv, v = .slice av Z.length capv ∧ (Z = [] ∨ ∃ a, av = some a ∧ a.block < w.heap.size ∧ Z.length ≤ maxLen ∧ ∀ i, i < Z.length → w.cell? (a.add i) = some (.int .i64 (Z.getD i 0)) ∧ -9223372036854775808 ≤ Z.getD i 0 ∧ Z.getD i 0 ≤ 9223372036854775807)

set_option maxHeartbeats 4000000 in
set_option maxRecDepth 100000 in
theorem blanks_any (s : ByteArray) (vm : Value) (Z : List Int) (w : World) (hM : IntsV w vm Z) (hV : LexV w) (hP : Pow10 w) : Calls Tryz.prog 5 #[.string s, vm] w (TruePost w) := by
  have HV := Lib.hid hV
  have HPw := Lib.hid hP
  obtain ⟨av, capv, rfl, hMv⟩ := hM
  have HMv := Lib.hid hMv
  have hQ : lexQ s = lexQ s := rfl
  clear hP hMv
  go_enter Tryz.func5, Tryz.ntmps5
  go_wp2_with fail
  refine (alive_any _ hV).mono ?_
  rintro e w1 ⟨rfl, b1⟩
  go_wp2_with fail
  refine (lex_all s _ (hV.below b1)).mono ?_
  rintro e w2 ⟨⟨v, rfl, ho⟩, b2'⟩
  have b2 := b1.trans (b2'.mono b1.size)
  by_cases h0 : (lexQ s).2.1 = 0
  · have hs4 : s.size ≤ 4000 := by
      by_cases h : s.size ≤ 4000
      · exact h
      · unfold lexQ at h0; rw [if_neg h] at h0; simp at h0
    have hq : lexQ s = lexR s.data.toList := by unfold lexQ; rw [if_pos hs4]
    rw [if_pos h0] at ho
    rw [hq] at h0 ho ⊢
    obtain ⟨L', hL1, hL2, hL3⟩ := lexR_ok s.data.toList h0
    rw [size_list] at hL1
    rw [hL1] at ho
    obtain ⟨n, hn⟩ : ∃ n, n = L'.length := ⟨_, rfl⟩
    have hlen : (L' ++ [(Tok.zero, s.size)]).length = n + 1 := by simp [hn]
    obtain ⟨va, cap, rfl⟩ := ho.slice
    obtain ⟨g, rfl, hg1, hg2, hlc, hcm, hcells⟩ := own_at ho (by omega)
    have HC := Lib.hid hcells
    generalize hR : lexR s.data.toList = R at *
    obtain ⟨L, er, pl⟩ := R
    obtain rfl : er = 0 := h0
    rw [hlen] at hlc ⊢
    have HN := Lib.hid hn
    have HL := Lib.hid hL2
    have hn1 : n ≤ 1000 := by omega
    clear hcells ho hL1 hL2 hq hn hlen hL3 b2'
    by_cases h200 : n + 1 ≤ 200
    · have h2i : ¬ (200 : Int) < (n : Int) + 1 := by omega
      have HS := Lib.hid (blanked_again Z L' s.size HL.out (by have := HN.out; omega))
      have HSl := Lib.hid (blanked_len Z (L := L' ++ [(Tok.zero, s.size)]) (show ∀ x ∈ L' ++ [(Tok.zero, s.size)], TokOK x.1 ∨ x.1 = Tok.zero by
        intro x hx
        rw [List.mem_append] at hx
        rcases hx with hx | hx
        · exact .inl (HL.out x hx)
        · rw [List.mem_singleton] at hx; subst hx; exact .inr rfl))
      have HZ : Hid (∀ (k : Nat) (t : Tok) (p : Nat), (L' ++ [(Tok.zero, s.size)])[k]? = some (t, p) → TokOK t ∨ t = Tok.zero) := by
        intro k t p hk
        have hx := List.mem_of_getElem? hk
        rw [List.mem_append] at hx
        rcases hx with hx | hx
        · exact .inl (HL.out _ hx)
        · rw [List.mem_singleton] at hx
          exact .inr (Prod.mk.inj hx).1
      have HLen : Hid ((L' ++ [(Tok.zero, s.size)]).length = n + 1) := by unfold Hid; rw [List.length_append, ← HN.out]; rfl
      rw [← HN.out] at HS
      have HG2 := Lib.hid hg2
      have HB2 := Lib.hid b2
      clear HL HN hg2 b2 hR
      generalize L' ++ [(Tok.zero, s.size)] = LL at *
      go_wp2_with fail
      go_loopw [8, 31] (fun t i wr => ∃ k : Nat, i = .int .i64 k ∧ k ≤ n + 1 ∧ Below w2.heap.size w2 wr ∧ t = .string ⟨(blanked Z LL k).toArray⟩) (fun _ i _ => n + 1 - (intOf i).toNat)
      case atStart => exact ⟨0, rfl, Nat.zero_le _, Below.refl _ _, rfl⟩
      case round =>
        obtain ⟨k, rfl, hk, hb, rfl⟩ := hrel
        have hsl : (blanked Z LL k).length ≤ 3000000 := by have := HSl.out k; omega
        by_cases hlt : k < n + 1
        · obtain ⟨t, p, htp⟩ : ∃ t p, LL[k]? = some (t, p) := by
            have := HLen.out
            exact ⟨LL[k].1, LL[k].2, List.getElem?_eq_getElem (by omega)⟩
          have HT := Lib.hid (HZ.out k t p htp)
          have hka := HC.out.below HG2.out hb
          have c0 : wr.cell? ⟨g, k * 6, none⟩ = _ := hka k t p htp 0 _ rfl
          have c1 : wr.cell? ⟨g, k * 6 + 1, none⟩ = _ := hka k t p htp 1 _ rfl
          have c2 : wr.cell? ⟨g, k * 6 + 2, none⟩ = _ := hka k t p htp 2 _ rfl
          have c3 : wr.cell? ⟨g, k * 6 + 3, none⟩ = _ := hka k t p htp 3 _ rfl
          have c4 : wr.cell? ⟨g, k * 6 + 4, none⟩ = _ := hka k t p htp 4 _ rfl
          have c5 : wr.cell? ⟨g, k * 6 + 5, none⟩ = some (.int .i64 p) := hka k t p htp 5 _ rfl
          have HSu := Lib.hid (blanked_succ Z htp)
          have hln := show_len HT.out
          have hb3 : Below w2.heap.size w2 (wr.alloc (.cells (cellsT t p) 33)) := hb.alloc hb.size _
          clear hka htp hb
          generalize blanked Z LL k = jt at *
          go_wp2_with fail
          refine (show_any t p _ HT.out (HPw.out.below (HB2.out.trans (hb3.mono HB2.out.size)))).mono ?_
          rintro e w5 ⟨rfl, b5⟩
          have hb5 := hb3.trans (b5.mono hb3.size)
          clear c0 c1 c2 c3 c4 c5 hb3 b5
          generalize showT t = st at *
          by_cases hz : k < Z.length
          · rcases HMv.out with rfl | ⟨a, rfl, ha, hmx, hcz⟩
            · simp at hz
            · obtain ⟨z0, z1, z2⟩ := hcz k hz
              have hz0 : w5.cell? (a.add k) = some (.int .i64 (Z.getD k 0)) := by
                have e : (a.add k).block = a.block := Go.ChangeShapes.block_add a k
                rw [(HB2.out.trans (hb5.mono HB2.out.size)).cell (p := a.add k) (by rw [e]; exact ha)]
                exact z0
              have HE : Hid (sepZ Z k = sepM (Z.getD k 0)) := by unfold Hid sepZ; rw [if_pos hz]
              clear hcz z0
              generalize Z.getD k 0 = z at *
              have hzi : (k : Int) < (Z.length : Int) := by omega
              go_wp2_with fail
              all_goals
                refine ⟨⟨k + 1, by go_num, by omega, hb5, str_val _ _ ?_⟩, by simp [intOf]; omega⟩
                rw [HSu.out, HE.out]
                unfold sepM
                simp only [*, ByteArray.data_append, Array.toList_append, List.append_assoc]; rfl
          · have hzi : ¬ (k : Int) < (Z.length : Int) := by omega
            have HE : Hid (sepZ Z k = [10]) := by unfold Hid sepZ; rw [if_neg hz]
            go_wp2_with fail
            go_roundw
            case rel =>
              refine ⟨k + 1, by go_num, by omega, hb5, str_val _ _ ?_⟩
              rw [HSu.out, HE.out]
              simp [ByteArray.data_append]
            case measure => simp [intOf]; omega
        · obtain rfl : k = n + 1 := by omega
          by_cases h4 : (blanked Z LL (n + 1)).length ≤ 4000
          · have h4i : ¬ (4000 : Int) < ((blanked Z LL (n + 1)).length : Int) := by omega
            have h4s : (⟨(blanked Z LL (n + 1)).toArray⟩ : ByteArray).size ≤ 4000 := h4
            have HQ2 : Hid (lexQ ⟨(blanked Z LL (n + 1)).toArray⟩ = lexR (blanked Z LL (n + 1))) := by unfold Hid lexQ; rw [if_pos h4s]
            generalize blanked Z LL (n + 1) = jt at *
            have hbw := HB2.out.trans (hb.mono HB2.out.size)
            have hgr : g < wr.heap.size := Nat.lt_of_lt_of_le HG2.out hb.size
            have hca := HC.out.below HG2.out hb
            clear hb hsl
            go_wp2_with fail
            refine (lex_all _ _ (HV.out.below hbw)).mono ?_
            rintro e w6 ⟨⟨v6, rfl, ho6⟩, b6⟩
            rw [HQ2.out] at ho6 ⊢
            obtain ⟨hs1, hs2⟩ := HS.out
            rw [if_pos hs1] at ho6
            clear HQ2 HS HSl
            generalize lexR jt = R2 at *
            obtain ⟨M, e2, pl2⟩ := R2
            obtain rfl : e2 = 0 := hs1
            simp only [] at ho6 hs2
            obtain ⟨vb, capb, rfl⟩ := ho6.slice
            have hlM : M.length = n + 1 := by
              have := congrArg List.length hs2
              rw [List.length_map, List.length_map, HLen.out] at this
              exact this
            obtain ⟨gb, rfl, _, hgb, _, _, hcb⟩ := own_at ho6 (by omega)
            have hca6 := hca.below hgr b6
            have hga6 : g < w6.heap.size := Nat.lt_of_lt_of_le hgr b6.size
            have hbw6 := hbw.trans (b6.mono hbw.size)
            have HSame := Lib.hid (same_some false LL M g gb cap capb w6 hga6 hgb hca6 hcb (by rw [HLen.out]; omega) hs2.symm (fun h => by cases h))
            rw [HLen.out, hlM] at HSame
            rw [hlM]
            clear hca hca6 hcb ho6 hs2 hlM HLen hbw b6
            go_wp2_with fail
            refine HSame.out.mono ?_
            rintro e w7 ⟨rfl, b7⟩
            go_wp2
            go_ret
            exact ⟨rfl, hbw6.trans (b7.mono hbw6.size)⟩
          · have h4i : (4000 : Int) < ((blanked Z LL (n + 1)).length : Int) := by omega
            generalize blanked Z LL (n + 1) = jt at *
            go_wp2_with fail
            go_ret
            exact ⟨rfl, HB2.out.trans (hb.mono HB2.out.size)⟩
    · have h2i : (200 : Int) < (n : Int) + 1 := by omega
      go_wp2_with fail
      go_ret
      exact ⟨rfl, b2⟩
  · rw [if_neg h0] at ho
    subst ho
    generalize lexQ s = R at *
    have hn : (R.2.1 != 0) = true := by simpa using h0
    have hn2 : (R.2.1 == 0) = false := by simpa using h0
    go_wp2_with fail
    go_ret
    exact ⟨rfl, b2⟩

end Go.Proofs.YtlmjijiepnefdaaGreatDoor
