/-
  Literals as tokens: plain facts; no conditions.
-/
import Derived.Test.YtlmjijiepnefdaaGreatDoorLexAgP
import Derived.Test.YtlmjijiepnefdaaGreatDoorRBase
namespace Go.Proofs.YtlmjijiepnefdaaGreatDoor
open Go.RowKit

theorem first_minus (r : List UInt8) : firstR (45 :: r) = (⟨4, [45], 0, 0, []⟩, 1, 0) := by
  have hq : hexQ (45 :: r) = false := by unfold hexQ; simp
  unfold firstR
  rw [hq, if_neg (by simp), if_neg (show ¬ letterB ((45 :: r).getD 0 0) = true by show ¬ letterB 45 = true; decide), if_neg (show ¬ digitB ((45 :: r).getD 0 0) = true by show ¬ digitB 45 = true; decide), if_neg (show ¬ (45 :: r).getD 0 0 = 39 by show ¬ (45 : UInt8) = 39; decide)]
  simp [symR, syms, Lib.hasPrefix, List.isPrefixOf]
theorem lexR_minus {t : Tok} (h : TokOK t) (hd : ∃ c s, showT t = c :: s ∧ c ≠ 45) : lexR (45 :: showT t) = ([(⟨4, [45], 0, 0, []⟩, 0), (t, 1), (Tok.zero, 1 + (showT t).length)], 0, 0) := by
  have hst : Stop ([] : List UInt8) := .inl rfl
  have hg := gap_show h hst
  have hf := first_show h hst
  rw [List.append_nil] at hg hf
  have hne : showT t ≠ [] := by obtain ⟨c, s, e2, _⟩ := show_head h; rw [e2]; simp
  have hp : Lib.hasPrefix (45 :: showT t) [45, 45] = false := by
    obtain ⟨c, s, e, hc⟩ := hd
    rw [e]; simp [Lib.hasPrefix, List.isPrefixOf, Ne.symm hc]
  have hg0 : gapN (45 :: showT t) = 0 := by
    unfold gapN
    rw [runN_cons, if_neg (by decide), List.drop_zero, gapT_no hp]
  unfold lexR
  rw [hg0, List.drop_zero, lexS_go 999 0 (by simp) (by rw [first_minus]), first_minus]
  simp only []
  rw [List.drop_one, List.tail_cons, hg, List.drop_zero, lexS_go 998 _ hne (by rw [hf]), hf]
  simp only []
  have h0 : gapN ([] : List UInt8) = 0 := Nat.le_zero.1 (gapN_le [])
  rw [List.drop_length, h0, List.drop_zero, lexS_nil]
  simp
theorem digit_head {d : List UInt8} (hd : ∀ c ∈ d, digitB c = true) (hne : d ≠ []) (r : List UInt8) : ∃ c s, d ++ r = c :: s ∧ c ≠ 45 := by
  cases d with
  | nil => exact absurd rfl hne
  | cons c d => exact ⟨c, d ++ r, rfl, (digit_not c (hd c (by simp))).2.2.2.2.1⟩
theorem numV_neg (i : Int) (h : i < 0) (h2 : -9223372036854775808 ≤ i) : IntKind.i64.wrap (-i) = numV i.natAbs := by
  unfold numV
  rw [IntKind.wrap_i64]
  split <;> omega

/-- The tokens of a value's literal. -/
theorem lit_word (k i : Int) (s : ByteArray) (hr : rightD ⟨k, i, s⟩ = true) (hk : k ≤ 1) :
    lexR (litL k i s.data.toList) = ([(⟨2, litL k i s.data.toList, 0, 0, []⟩, 0), (Tok.zero, (litL k i s.data.toList).length)], 0, 0) ∧ (k = 0 ∨ k = 1) ∧ (litL k i s.data.toList).length ≤ 4000 := by
  unfold rightD at hr
  simp only [] at hr
  by_cases h0 : k = 0
  · subst h0
    have e : litL 0 i s.data.toList = [78, 85, 76, 76] := rfl
    rw [e]
    exact ⟨lexR_one (TokOK.word [78, 85, 76, 76] (by decide +kernel)), .inl rfl, by simp⟩
  by_cases h1 : k = 1
  · subst h1
    have hb : i = 0 ∨ i = 1 := by simp at hr; exact hr.1
    rcases hb with rfl | rfl
    · have e : litL 1 0 s.data.toList = [70, 65, 76, 83, 69] := rfl
      rw [e]
      exact ⟨lexR_one (TokOK.word [70, 65, 76, 83, 69] (by decide +kernel)), .inr rfl, by simp⟩
    · have e : litL 1 1 s.data.toList = [84, 82, 85, 69] := rfl
      rw [e]
      exact ⟨lexR_one (TokOK.word [84, 82, 85, 69] (by decide +kernel)), .inr rfl, by simp⟩
  · have h2 : ¬ (k = 2 ∨ k = 3) := by omega
    have h4 : ¬ k = 4 := by omega
    have h5 : ¬ k = 5 := by omega
    rw [if_neg h0, if_neg h1, if_neg h2, if_neg h4, if_neg h5] at hr
    cases hr
theorem lit_neg (k i : Int) (s : ByteArray) (hr : rightD ⟨k, i, s⟩ = true) (hk : k = 2 ∨ k = 3) (hi : i < 0) (h2 : -9223372036854775808 ≤ i) :
    (∃ n, lexR (litL k i s.data.toList) = ([(⟨4, [45], 0, 0, []⟩, 0), (⟨3, [], k, IntKind.i64.wrap (-i), []⟩, 1), (Tok.zero, n)], 0, 0)) ∧ s = noText ∧ (litL k i s.data.toList).length ≤ 4000 := by
  unfold rightD at hr
  simp only [] at hr
  rw [if_neg (by omega), if_neg (by omega), if_pos hk] at hr
  have hs : s = noText := ba_empty' (by simpa using hr) rfl
  have hv : i.natAbs ≤ 9223372036854775808 := by omega
  refine ⟨?_, hs, ?_⟩
  · rw [numV_neg i hi h2]
    rcases hk with rfl | rfl
    · have e : litL 2 i s.data.toList = 45 :: showT ⟨3, [], 2, numV i.natAbs, []⟩ := by
        rw [show_int _ hv]
        show Lib.itoa i = _
        unfold Lib.itoa
        rw [if_pos hi]
      obtain ⟨q1, q2, _⟩ := dd_spec i.natAbs _ (Nat.le_refl _)
      rw [e]
      exact ⟨_, lexR_minus (TokOK.int _ hv) (by rw [show_int _ hv]; simpa using digit_head q1 q2 [])⟩
    · have e : litL 3 i s.data.toList = 45 :: showT ⟨3, [], 3, numV i.natAbs, []⟩ := by
        rw [show_dec _ hv]
        show decL i = _
        unfold decL
        rw [if_pos hi]; rfl
      obtain ⟨q1, q2, _⟩ := dd_spec (i.natAbs / 10000) _ (Nat.le_refl _)
      rw [e]
      exact ⟨_, lexR_minus (TokOK.dec _ hv) (by rw [show_dec _ hv]; exact digit_head q1 q2 _)⟩
  · have h1 := nd_le i.natAbs (by omega)
    have h3 := nd_le (i.natAbs / 10000) (by omega)
    rcases hk with rfl | rfl
    · show (Lib.itoa i).length ≤ _
      unfold Lib.itoa
      rw [if_pos hi, List.length_cons]; omega
    · show (decL i).length ≤ _
      unfold decL
      rw [if_pos hi, List.length_append, List.length_append]
      show 1 + ((Lib.decDigits (i.natAbs / 10000)).length + 5) ≤ _
      omega
theorem lit_pos (k i : Int) (s : ByteArray) (hr : rightD ⟨k, i, s⟩ = true) (hk : 2 ≤ k) (hi : (k = 2 ∨ k = 3) → 0 ≤ i) (h2 : i ≤ 9223372036854775807) :
    (∃ n, lexR (litL k i s.data.toList) = ([(⟨3, [], k, i, s.data.toList⟩, 0), (Tok.zero, n)], 0, 0)) ∧ k ≤ 5 ∧ (litL k i s.data.toList).length ≤ 4000 := by
  unfold rightD at hr
  simp only [] at hr
  rw [if_neg (by omega), if_neg (by omega)] at hr
  by_cases h23 : k = 2 ∨ k = 3
  · rw [if_pos h23] at hr
    have hs : s = noText := ba_empty' (by simpa using hr) rfl
    have h0 := hi h23
    have hv : i.toNat ≤ 9223372036854775808 := by omega
    have hn : numV i.toNat = i := by unfold numV; rw [if_neg (by omega)]; omega
    have h1 := nd_le i.toNat (by omega)
    have h3 := nd_le (i.toNat / 10000) (by omega)
    subst hs
    rcases h23 with rfl | rfl
    · have e : litL 2 i (noText : ByteArray).data.toList = showT ⟨3, [], 2, numV i.toNat, []⟩ := by
        rw [show_int _ hv]
        show Lib.itoa i = _
        unfold Lib.itoa
        rw [if_neg (by omega)]
      rw [e]
      refine ⟨⟨(showT ⟨3, [], 2, i, []⟩).length, ?_⟩, by omega, by rw [show_int _ hv]; omega⟩
      have := lexR_one (TokOK.int i.toNat hv)
      rw [hn] at this ⊢
      exact this
    · have e : litL 3 i (noText : ByteArray).data.toList = showT ⟨3, [], 3, numV i.toNat, []⟩ := by
        rw [show_dec _ hv]
        show decL i = _
        unfold decL
        rw [if_neg (by omega), List.nil_append, show i.natAbs = i.toNat by omega]
      rw [e]
      refine ⟨⟨(showT ⟨3, [], 3, i, []⟩).length, ?_⟩, by omega, by rw [show_dec _ hv, List.length_append]; show (Lib.decDigits (i.toNat / 10000)).length + 5 ≤ _; omega⟩
      have := lexR_one (TokOK.dec i.toNat hv)
      rw [hn] at this ⊢
      exact this
  · rw [if_neg h23] at hr
    have hq := quoteL_len s.data.toList
    have hx := hexL_len s.data.toList
    have hz := size_list s
    by_cases h4 : k = 4
    · subst h4
      rw [if_pos rfl] at hr
      simp at hr
      obtain ⟨rfl, hl, hV⟩ := hr
      exact ⟨⟨_, lexR_one (TokOK.text s.data.toList hV (by rw [hz]; exact hl))⟩, by omega, by show (39 :: (quoteL s.data.toList ++ [39])).length ≤ _; simp; omega⟩
    · rw [if_neg h4] at hr
      by_cases h5 : k = 5
      · subst h5
        rw [if_pos rfl] at hr
        simp at hr
        obtain ⟨rfl, hl⟩ := hr
        exact ⟨⟨_, lexR_one (TokOK.bytes s.data.toList (by rw [hz]; exact hl))⟩, by omega, by show (120 :: 39 :: (hexL s.data.toList ++ [39])).length ≤ _; simp; omega⟩
      · rw [if_neg h5] at hr; cases hr

/-- A name alone, in either letters. -/
theorem lex_name (l : List UInt8) (hN : l ≠ [] ∧ l.length ≤ 20 ∧ letterB (l.getD 0 0) = true ∧ (∀ c ∈ l, nameB c = true) ∧ isWord (Lib.toUpperA l) = false) :
    lexR l = ([(⟨1, Lib.toLowerA l, 0, 0, []⟩, 0), (Tok.zero, l.length)], 0, 0) := by
  obtain ⟨h1, h2, h3, h4, h5⟩ := hN
  cases l with
  | nil => exact absurd rfl h1
  | cons c s =>
    have hc : letterB c = true := h3
    have hf := first_name hc h4 h2 (r := []) (.inl rfl)
    rw [List.append_nil, h5, if_neg (by simp)] at hf
    have hn := letter_not c (h4 c (by simp))
    have hg0 : gapN (c :: s) = 0 := by
      unfold gapN
      rw [runN_cons, if_neg (by rw [hn.2.1]; simp), List.drop_zero, gapT_no (by simp [Lib.hasPrefix, List.isPrefixOf, Ne.symm hn.2.2])]
    unfold lexR
    rw [hg0, List.drop_zero, lexS_go 999 0 (by simp) (by rw [hf]), hf]
    simp only []
    have h0 : gapN ([] : List UInt8) = 0 := Nat.le_zero.1 (gapN_le [])
    rw [List.drop_length, h0, List.drop_zero, lexS_nil]
    simp

end Go.Proofs.YtlmjijiepnefdaaGreatDoor
