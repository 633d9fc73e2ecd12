/-
  A text is shown with each apostrophe twice; and read again so: plain facts; no conditions.
-/
import Derived.Test.YtlmjijiepnefdaaGreatDoorLexShow
namespace Go.Proofs.YtlmjijiepnefdaaGreatDoor
open Go.RowKit

set_option maxRecDepth 100000 in
set_option maxHeartbeats 4000000 in
/-- A rune hangs on its own bytes alone. -/
theorem decodeN_local (n n' b0 b1 b2 b3 c1 c2 c3 : Nat) (hr : ¬ ((Lib.decodeN n b0 b1 b2 b3).1 = 65533 ∧ (Lib.decodeN n b0 b1 b2 b3).2 = 1)) (hn : (Lib.decodeN n b0 b1 b2 b3).2 ≤ n')
    (h1 : 2 ≤ (Lib.decodeN n b0 b1 b2 b3).2 → c1 = b1) (h2 : 3 ≤ (Lib.decodeN n b0 b1 b2 b3).2 → c2 = b2) (h3 : 4 ≤ (Lib.decodeN n b0 b1 b2 b3).2 → c3 = b3) :
    Lib.decodeN n' b0 c1 c2 c3 = Lib.decodeN n b0 b1 b2 b3 := by
  rcases Lib.decodeN_shape n b0 b1 b2 b3 with ⟨c, e⟩ | ⟨q1, q2, q3, q4, e⟩ | ⟨q1, q2, q3, q4, q5, q6, e⟩ | ⟨q1, q2, q3, q4, q5, q6, q7, e⟩ | e
  · rw [e]; unfold Lib.decodeN; rw [if_pos c]
  · rw [e] at hn h1 ⊢
    obtain rfl := h1 (by simp)
    simp only [] at hn
    unfold Lib.decodeN
    rw [if_neg (by omega), if_pos ⟨q1, by omega, q3⟩, if_pos (by omega)]
  · rw [e] at hn h1 h2 ⊢
    obtain rfl := h1 (by simp)
    obtain rfl := h2 (by simp)
    simp only [] at hn
    unfold Lib.decodeN
    rw [if_neg (by omega), if_neg (by omega), if_pos ⟨q1, ⟨by omega, q3⟩, ⟨by omega, q4⟩⟩, if_pos ⟨by omega, by omega⟩]
  · rw [e] at hn h1 h2 h3 ⊢
    obtain rfl := h1 (by simp)
    obtain rfl := h2 (by simp)
    obtain rfl := h3 (by simp)
    simp only [] at hn
    unfold Lib.decodeN
    rw [if_neg (by omega), if_neg (by omega), if_neg (by omega), if_pos ⟨q1, ⟨by omega, q3⟩, ⟨by omega, q4⟩, ⟨by omega, q5⟩⟩, if_pos ⟨by omega, by omega⟩]
  · rw [e] at hr; exact absurd ⟨rfl, rfl⟩ hr

theorem getD_app {l x : List UInt8} {w i : Nat} (hw : w ≤ l.length) (hi : i < w) : (l.take w ++ x).getD i 0 = l.getD i 0 := by
  rw [List.getD_eq_getElem?_getD, List.getD_eq_getElem?_getD, List.getElem?_append_left (by rw [List.length_take]; omega), List.getElem?_take, if_pos hi]
theorem dec_local (l : List UInt8) (hne : l ≠ []) (hr : ¬ ((Lib.decodeL l).1 = 65533 ∧ (Lib.decodeL l).2 = 1)) (x : List UInt8) : Lib.decodeL (l.take (Lib.decodeL l).2 ++ x) = Lib.decodeL l := by
  have hle := Lib.decodeL_le l hne
  have hw := Lib.decodeL_width l
  have hlen : (l.take (Lib.decodeL l).2 ++ x).length = (Lib.decodeL l).2 + x.length := by rw [List.length_append, List.length_take]; omega
  have e := Lib.decodeL_N l
  generalize hd : Lib.decodeL l = d at *
  rw [Lib.decodeL_N, hlen, getD_app hle (by omega : 0 < d.2)]
  rw [e]
  refine decodeN_local _ _ _ _ _ _ _ _ _ (by rw [← e]; exact hr) (by rw [← e]; omega) ?_ ?_ ?_
  · rw [← e]; intro h; rw [getD_app hle (by omega)]
  · rw [← e]; intro h; rw [getD_app hle (by omega)]
  · rw [← e]; intro h; rw [getD_app hle (by omega)]

theorem dec_39 {l : List UInt8} (hne : l ≠ []) (h : (Lib.decodeL l).1 = 39) : ∃ l', l = 39 :: l' := by
  cases l with
  | nil => exact absurd rfl hne
  | cons c l =>
    refine ⟨l, ?_⟩
    rw [Lib.decodeL_N] at h
    have e0 : (c :: l).getD 0 0 = c := rfl
    rw [e0] at h
    congr 1
    apply UInt8.toNat_inj.1
    rcases Nat.lt_or_ge c.toNat 128 with h0 | h0
    · rw [decodeN_low _ _ _ _ _ h0] at h; exact h
    · have := (decodeN_high (c :: l).length c.toNat ((c :: l).getD 1 0).toNat ((c :: l).getD 2 0).toNat ((c :: l).getD 3 0).toNat h0).1
      omega
theorem dec_no39 {l : List UInt8} (_hne : l ≠ []) (h : (Lib.decodeL l).1 ≠ 39) : ∀ c ∈ l.take (Lib.decodeL l).2, c ≠ 39 := by
  intro c hc
  obtain ⟨i, hi⟩ := List.mem_iff_getElem?.1 hc
  rw [List.getElem?_take] at hi
  by_cases hiw : i < (Lib.decodeL l).2
  · rw [if_pos hiw] at hi
    have hg : l.getD i 0 = c := by rw [List.getD_eq_getElem?_getD, hi]; rfl
    rw [Lib.decodeL_N] at h hiw
    rcases Nat.lt_or_ge (l.getD 0 0).toNat 128 with h0 | h0
    · rw [decodeN_low _ _ _ _ _ h0] at h hiw
      obtain rfl : i = 0 := by simp only [] at hiw; omega
      rw [hg] at h
      intro e; rw [e] at h; exact h rfl
    · obtain ⟨_, g1, g2, g3, g4⟩ := decodeN_high l.length (l.getD 0 0).toNat (l.getD 1 0).toNat (l.getD 2 0).toNat (l.getD 3 0).toNat h0
      have : 128 ≤ c.toNat := by
        rw [← hg]
        have hj : i = 0 ∨ i = 1 ∨ i = 2 ∨ i = 3 := by omega
        rcases hj with rfl | rfl | rfl | rfl
        · exact h0
        · exact g1 (by omega)
        · exact g2 (by omega)
        · exact g3 (by omega)
      intro e; rw [e] at this; exact absurd this (by decide)
  · rw [if_neg hiw] at hi; cases hi
theorem quote_same {l : List UInt8} (h : ∀ c ∈ l, c ≠ 39) : quoteL l = l := by
  induction l with
  | nil => rfl
  | cons c l ih => rw [quoteL, if_neg (h c (by simp)), ih fun x hx => h x (by simp [hx])]; rfl

/-! ### what is quoted is read to its end -/
theorem decodeL_39 (l : List UInt8) : Lib.decodeL (39 :: l) = (39, 1) := Lib.decodeL_ascii 39 l (by decide)
theorem textS_two (l : List UInt8) : textS false (39 :: 39 :: l) = shiftR 2 (textS false l) := by
  rw [textS_quote (by simp) (by rw [decodeL_39]), decodeL_39, List.drop_one, List.tail_cons]
  show shiftR 1 (textS true (39 :: l)) = _
  rw [textS_quote (by simp) (by rw [decodeL_39]), decodeL_39, List.drop_one, List.tail_cons, shift_shift]
  rfl
theorem textS_last {r : List UInt8} (hr : r = [] ∨ (r ≠ [] ∧ (Lib.decodeL r).1 ≠ 39)) : textS false (39 :: r) = (1, 0) := by
  rw [textS_quote (by simp) (by rw [decodeL_39]), decodeL_39, List.drop_one, List.tail_cons]
  show shiftR 1 (textS true r) = _
  rcases hr with rfl | ⟨h1, h2⟩
  · rw [textS_nil]; rfl
  · rw [textS_end h1 h2]; rfl
theorem textS_quoted : ∀ (n : Nat) (v : List UInt8), v.length ≤ n → Lib.validD v = true → ∀ r, (r = [] ∨ (r ≠ [] ∧ (Lib.decodeL r).1 ≠ 39)) → textS false (quoteL v ++ 39 :: r) = ((quoteL v).length + 1, 0) := by
  intro n
  induction n with
  | zero =>
    intro v hv _ r hr
    obtain rfl : v = [] := List.length_eq_zero_iff.1 (by omega)
    exact textS_last hr
  | succ n ih =>
    intro v hv hV r hr
    by_cases hne : v = []
    · subst hne; exact textS_last hr
    · by_cases h39 : (Lib.decodeL v).1 = 39
      · obtain ⟨v', rfl⟩ := dec_39 hne h39
        rw [Lib.validD_cons 39 v' (by decide)] at hV
        have := ih v' (by simp at hv; omega) hV r hr
        show textS false (39 :: 39 :: (quoteL v' ++ 39 :: r)) = ((39 :: 39 :: quoteL v').length + 1, 0)
        rw [textS_two, this]
        unfold shiftR
        simp only [List.length_cons]
        congr 1; omega
      · have hb := Lib.validD_step v hne
        rw [hV] at hb
        have hbad : ¬ ((Lib.decodeL v).1 = 65533 ∧ (Lib.decodeL v).2 = 1) := by intro h; rw [if_pos h] at hb; cases hb
        rw [if_neg hbad] at hb
        have hw := Lib.decodeL_width v
        have hle := Lib.decodeL_le v hne
        have hq : quoteL v = v.take (Lib.decodeL v).2 ++ quoteL (v.drop (Lib.decodeL v).2) := by
          conv => lhs; rw [← List.take_append_drop (Lib.decodeL v).2 v]
          rw [quoteL_append, quote_same (dec_no39 hne h39)]
        have hloc := dec_local v hne hbad (quoteL (v.drop (Lib.decodeL v).2) ++ 39 :: r)
        have hih := ih (v.drop (Lib.decodeL v).2) (by rw [List.length_drop]; omega) hb.symm r hr
        rw [hq, List.append_assoc]
        generalize hd : Lib.decodeL v = d at *
        have hlt : (v.take d.2).length = d.2 := by rw [List.length_take]; omega
        have hne2 : v.take d.2 ++ (quoteL (v.drop d.2) ++ 39 :: r) ≠ [] := by
          intro e; have := congrArg List.length e; rw [List.length_append, hlt] at this; simp at this
        rw [textS_go hne2 (by rw [hloc]; exact h39) (by rw [hloc]; exact hbad), hloc]
        have hdr : (v.take d.2 ++ (quoteL (v.drop d.2) ++ 39 :: r)).drop d.2 = quoteL (v.drop d.2) ++ 39 :: r := by
          have := drop_app (v.take d.2) (quoteL (v.drop d.2) ++ 39 :: r)
          rwa [hlt] at this
        rw [hdr, hih]
        unfold shiftR
        rw [List.length_append, hlt, Nat.add_assoc]

/-- What is read to its end was quoted. -/
theorem textS_spec : ∀ (n : Nat) (l : List UInt8), l.length ≤ n → (textS false l).2 = 0 → ∃ v r, l = quoteL v ++ 39 :: r ∧ Lib.validD v = true ∧ (textS false l).1 = (quoteL v).length + 1 := by
  intro n
  induction n with
  | zero =>
    intro l hl h
    obtain rfl : l = [] := List.length_eq_zero_iff.1 (by omega)
    rw [textS_nil] at h; simp at h
  | succ n ih =>
    intro l hl h
    by_cases hne : l = []
    · subst hne; rw [textS_nil] at h; simp at h
    · by_cases h39 : (Lib.decodeL l).1 = 39
      · obtain ⟨l1, rfl⟩ := dec_39 hne h39
        by_cases h1 : l1 = []
        · subst h1; exact ⟨[], [], rfl, rfl, by rw [textS_last (.inl rfl)]; rfl⟩
        · by_cases h2 : (Lib.decodeL l1).1 = 39
          · obtain ⟨l2, rfl⟩ := dec_39 h1 h2
            rw [textS_two] at h ⊢
            obtain ⟨v, r, e1, e2, e3⟩ := ih l2 (by simp at hl; omega) h
            refine ⟨39 :: v, r, by rw [e1]; rfl, by rw [Lib.validD_cons 39 v (by decide)]; exact e2, ?_⟩
            show 2 + (textS false l2).1 = (39 :: 39 :: quoteL v).length + 1
            rw [e3, List.length_cons, List.length_cons]; omega
          · exact ⟨[], l1, rfl, rfl, by rw [textS_last (.inr ⟨h1, h2⟩)]; rfl⟩
      · by_cases hbad : (Lib.decodeL l).1 = 65533 ∧ (Lib.decodeL l).2 = 1
        · rw [textS_bad hne hbad.1 hbad.2] at h; simp at h
        · have hw := Lib.decodeL_width l
          have hle := Lib.decodeL_le l hne
          rw [textS_go hne h39 hbad] at h ⊢
          obtain ⟨v, r, e1, e2, e3⟩ := ih (l.drop (Lib.decodeL l).2) (by rw [List.length_drop]; omega) h
          have hloc := dec_local l hne hbad v
          have hsame := quote_same (dec_no39 hne h39)
          generalize hd : Lib.decodeL l = d at *
          have hlt : (l.take d.2).length = d.2 := by rw [List.length_take]; omega
          refine ⟨l.take d.2 ++ v, r, ?_, ?_, ?_⟩
          · rw [quoteL_append, hsame, List.append_assoc, ← e1, List.take_append_drop]
          · have hne2 : l.take d.2 ++ v ≠ [] := by
              intro e; have := congrArg List.length e; rw [List.length_append, hlt] at this; simp at this; omega
            have hdr : (l.take d.2 ++ v).drop d.2 = v := by have := drop_app (l.take d.2) v; rwa [hlt] at this
            rw [Lib.validD_step _ hne2, hloc, if_neg hbad, hdr, e2]
          · rw [quoteL_append, hsame, List.length_append, hlt]
            show d.2 + (textS false (l.drop d.2)).1 = _
            rw [e3]; omega

/-! ### two apostrophes are one -/
theorem index2_ne (b : UInt8) (l : List UInt8) (h : b ≠ 39) : Lib.index (b :: l) [39, 39] = if Lib.index l [39, 39] = -1 then -1 else Lib.index l [39, 39] + 1 := by
  rw [Lib.index]
  have hp : ([39, 39] : List UInt8).isPrefixOf (b :: l) = false := by simp [List.isPrefixOf]; exact fun e => absurd e.symm h
  rw [hp]
  simp
theorem index2_eq (l : List UInt8) : Lib.index (39 :: 39 :: l) [39, 39] = 0 := by rw [Lib.index]; simp [List.isPrefixOf]
theorem replaceK2_ne (k : Nat) (b : UInt8) (l : List UInt8) (h : b ≠ 39) : Lib.replaceK [39, 39] [39] k (b :: l) = b :: Lib.replaceK [39, 39] [39] k l := by
  cases k with
  | zero => rfl
  | succ k =>
    have hge := Lib.index_ge l [39, 39]
    by_cases hm : Lib.index l [39, 39] = -1
    · rw [Lib.replaceK, Lib.replaceK, index2_ne b l h, if_pos hm]; simp [hm]
    · obtain ⟨i, hi⟩ : ∃ i : Nat, Lib.index l [39, 39] = i := ⟨(Lib.index l [39, 39]).toNat, by omega⟩
      have h1 : Lib.index (b :: l) [39, 39] = ((i + 1 : Nat) : Int) := by rw [index2_ne b l h, if_neg hm, hi]; omega
      rw [Lib.replaceK_hit _ _ _ _ _ h1, Lib.replaceK_hit _ _ _ _ _ hi]
      simp
theorem count2_ne (b : UInt8) (l : List UInt8) (h : b ≠ 39) : Lib.count (b :: l) [39, 39] = Lib.count l [39, 39] := by
  have hge := Lib.index_ge l [39, 39]
  by_cases hm : Lib.index l [39, 39] = -1
  · rw [Lib.count_miss hm, Lib.count_miss (by rw [index2_ne b l h, if_pos hm])]
  · obtain ⟨i, hi⟩ : ∃ i : Nat, Lib.index l [39, 39] = i := ⟨(Lib.index l [39, 39]).toNat, by omega⟩
    have h1 : Lib.index (b :: l) [39, 39] = ((i + 1 : Nat) : Int) := by rw [index2_ne b l h, if_neg hm, hi]; omega
    rw [Lib.count_hit (by simp) h1, Lib.count_hit (by simp) hi]
    simp
theorem count_quote (v : List UInt8) : Lib.count (quoteL v) [39, 39] = v.count 39 := by
  induction v with
  | nil => exact Lib.count_miss rfl
  | cons c v ih =>
    by_cases h : c = 39
    · subst h
      show Lib.count (39 :: 39 :: quoteL v) [39, 39] = _
      rw [Lib.count_hit (i := 0) (by simp) (index2_eq _), List.count_cons_self]
      show 1 + Lib.count (quoteL v) [39, 39] = _
      rw [ih, Nat.add_comm]
    · rw [quoteL, if_neg h, List.count_cons_of_ne (fun e => h e)]
      show Lib.count (c :: quoteL v) [39, 39] = _
      rw [count2_ne c _ h, ih]
theorem replaceK_unq : ∀ (v : List UInt8) (k : Nat), v.count 39 ≤ k → Lib.replaceK [39, 39] [39] k (quoteL v) = v
  | [], k, _ => by
    cases k with
    | zero => rfl
    | succ k => rw [Lib.replaceK]; simp [Lib.index, quoteL]
  | b :: l, k, hk => by
    by_cases h : b = 39
    · subst h
      cases k with
      | zero => simp at hk
      | succ k =>
        show Lib.replaceK [39, 39] [39] (k + 1) (39 :: 39 :: quoteL l) = 39 :: l
        rw [Lib.replaceK_hit _ _ k _ 0 (index2_eq (quoteL l))]
        simp only [List.take_zero, List.nil_append, List.length_cons, List.length_nil, Nat.zero_add, Nat.reduceAdd, List.drop_succ_cons, List.drop_zero]
        rw [replaceK_unq l k (by simpa using hk)]
        rfl
    · rw [quoteL, if_neg h]
      show Lib.replaceK [39, 39] [39] k (b :: quoteL l) = b :: l
      rw [replaceK2_ne k b _ h, replaceK_unq l k (by rw [List.count_cons_of_ne (fun e => h e)] at hk; exact hk)]
theorem replaceAll_unq (v : List UInt8) : Lib.replaceAll (quoteL v) [39, 39] [39] = v := by
  unfold Lib.replaceAll Lib.replace Lib.replaceNum
  rw [if_neg (by decide), if_pos (.inl (by decide)), count_quote]
  exact replaceK_unq v _ (Nat.le_refl _)

theorem stop_39 {r : List UInt8} (h : Stop r) : r = [] ∨ (r ≠ [] ∧ (Lib.decodeL r).1 ≠ 39) := by
  rcases h with rfl | ⟨c, r', rfl, hb⟩
  · exact .inl rfl
  · obtain ⟨_, _, _, _, h1, _, _, h2⟩ := blank_not c hb
    refine .inr ⟨by simp, ?_⟩
    rw [Lib.decodeL_ascii c r' h2]
    intro e
    exact h1 (UInt8.toNat_inj.1 e)
theorem first_quote (l : List UInt8) : firstR (39 :: l) = txtR (39 :: l) := by
  unfold firstR
  rw [if_neg (by unfold hexQ; simp), if_neg (show ¬ letterB ((39 :: l).getD 0 0) = true by show ¬ letterB 39 = true; decide), if_neg (show ¬ digitB ((39 :: l).getD 0 0) = true by show ¬ digitB 39 = true; decide), if_pos (show (39 :: l).getD 0 0 = 39 from rfl)]
theorem first_text {v r : List UInt8} (hV : Lib.validD v = true) (hl : v.length ≤ 1000) (hr : Stop r) : firstR (39 :: (quoteL v ++ 39 :: r)) = (⟨3, [], 4, 0, v⟩, (quoteL v).length + 2, 0) := by
  have ht := textS_quoted _ v (Nat.le_refl _) hV r (stop_39 hr)
  have hts : tsR (39 :: (quoteL v ++ 39 :: r)) = ((quoteL v).length + 2, 0) := by
    unfold tsR
    rw [List.drop_one, List.tail_cons, ht, if_neg (by simp)]
    show (1 + ((quoteL v).length + 1), (0 : Int)) = _
    congr 1; omega
  have hv : txtV (39 :: (quoteL v ++ 39 :: r)) = v := by
    unfold txtV
    rw [hts, List.drop_one, List.tail_cons]
    show Lib.replaceAll ((quoteL v ++ 39 :: r).take (quoteL v).length) [39, 39] [39] = v
    rw [take_app, replaceAll_unq]
  rw [first_quote]
  unfold txtR
  rw [hts, hv, if_pos rfl, if_neg (by omega)]

end Go.Proofs.YtlmjijiepnefdaaGreatDoor
