/-
  Tokens, shown one behind the other with blanks and comments between, are the same tokens: plain facts; no conditions.
-/
import Derived.Test.YtlmjijiepnefdaaGreatDoorLexShowT
namespace Go.Proofs.YtlmjijiepnefdaaGreatDoor
open Go.RowKit

/-- The tokens that there are. -/
inductive TokOK : Tok → Prop
  | name (c : UInt8) (s : List UInt8) (hc : letterB c = true) (ha : ∀ x ∈ c :: s, nameB x = true) (hl : (c :: s).length ≤ 20) (hlow : Lib.toLowerA (c :: s) = c :: s) (hw : isWord (Lib.toUpperA (c :: s)) = false) : TokOK ⟨1, c :: s, 0, 0, []⟩
  | word (s : List UInt8) (h : s ∈ wordsL) : TokOK ⟨2, s, 0, 0, []⟩
  | sym (s : List UInt8) (h : s ∈ syms) : TokOK ⟨4, s, 0, 0, []⟩
  | int (v : Nat) (h : v ≤ 9223372036854775808) : TokOK ⟨3, [], 2, numV v, []⟩
  | dec (v : Nat) (h : v ≤ 9223372036854775808) : TokOK ⟨3, [], 3, numV v, []⟩
  | text (v : List UInt8) (h : Lib.validD v = true) (hl : v.length ≤ 1000) : TokOK ⟨3, [], 4, 0, v⟩
  | bytes (v : List UInt8) (hl : v.length ≤ 1000) : TokOK ⟨3, [], 5, 0, v⟩

/-- A token as a text. -/
def showT (t : Tok) : List UInt8 :=
  if t.k ≠ 3 then t.s
  else if t.di = -9223372036854775808 ∧ t.dk = 2 then [57, 50, 50, 51, 51, 55, 50, 48, 51, 54, 56, 53, 52, 55, 55, 53, 56, 48, 56]
  else if t.di = -9223372036854775808 ∧ t.dk = 3 then [57, 50, 50, 51, 51, 55, 50, 48, 51, 54, 56, 53, 52, 55, 55, 46, 53, 56, 48, 56]
  else litL t.dk t.di t.ds

theorem show_int (v : Nat) (h : v ≤ 9223372036854775808) : showT ⟨3, [], 2, numV v, []⟩ = Lib.decDigits v := by
  unfold showT numV
  by_cases he : v = 9223372036854775808
  · subst he
    rw [dd_most]; rfl
  · rw [if_neg he, if_neg (by simp), if_neg (by simp), if_neg (by simp)]
    show Lib.itoa (v : Int) = _
    unfold Lib.itoa
    rw [if_neg (by omega)]; rfl
theorem show_dec (v : Nat) (h : v ≤ 9223372036854775808) : showT ⟨3, [], 3, numV v, []⟩ = Lib.decDigits (v / 10000) ++ 46 :: four (v % 10000) := by
  unfold showT numV
  by_cases he : v = 9223372036854775808
  · subst he
    rw [dd_mostD]; rfl
  · rw [if_neg he, if_neg (by simp), if_neg (by simp), if_neg (by simp)]
    show decL (v : Int) = _
    unfold decL
    rw [if_neg (by omega)]; rfl
theorem show_text (v : List UInt8) : showT ⟨3, [], 4, 0, v⟩ = 39 :: (quoteL v ++ [39]) := rfl
theorem show_bytes (v : List UInt8) : showT ⟨3, [], 5, 0, v⟩ = 120 :: 39 :: (hexL v ++ [39]) := rfl

theorem words_ok : ∀ s ∈ wordsL, s ≠ [] ∧ letterB (s.getD 0 0) = true ∧ (s.all nameB) = true ∧ s.length ≤ 20 ∧ Lib.toUpperA s = s := by decide +kernel
theorem isWord_iff (s : List UInt8) : isWord s = true ↔ s ∈ wordsL := by unfold isWord; simp
theorem lower_name : ∀ c : UInt8, nameB c = true → nameB (Lib.lowerB c) = true ∧ Lib.lowerB (Lib.lowerB c) = Lib.lowerB c ∧ Lib.upperB (Lib.lowerB c) = Lib.upperB c ∧ (letterB c = true → letterB (Lib.lowerB c) = true) := u8_all _ (by decide +kernel)

theorem first_show {t : Tok} (h : TokOK t) {r : List UInt8} (hr : Stop r) : firstR (showT t ++ r) = (t, (showT t).length, 0) := by
  cases h with
  | name c s hc ha hl hlow hw =>
    show firstR ((c :: s) ++ r) = (_, (c :: s).length, 0)
    rw [first_name hc ha hl hr, hw, if_neg (by simp), hlow]
  | word s h =>
    obtain ⟨h1, h2, h3, h4, h5⟩ := words_ok s h
    cases s with
    | nil => exact absurd rfl h1
    | cons c s =>
      show firstR ((c :: s) ++ r) = (_, (c :: s).length, 0)
      rw [first_name (c := c) (s := s) h2 (by simpa using h3) h4 hr, h5, if_pos ((isWord_iff _).2 h)]
  | sym s h => exact first_sym h hr
  | int v h =>
    obtain ⟨h1, h2, h3⟩ := dd_spec v v (Nat.le_refl _)
    rw [show_int v h, first_int h1 h2 hr (by rw [h3]; exact h), h3]
  | dec v h =>
    obtain ⟨h1, h2, h3⟩ := dd_spec (v / 10000) _ (Nat.le_refl _)
    have hlt : v % 10000 < 10000 := Nat.mod_lt _ (by decide)
    have hv : decF 0 (Lib.decDigits (v / 10000) ++ four (v % 10000)) = v := by rw [decF_append, h3, four_val _ _ hlt]; omega
    rw [show_dec v h, List.append_assoc, List.cons_append, first_dec h1 h2 (four_all _ hlt) rfl hr (by rw [hv]; exact h), hv, List.length_append]
    rfl
  | text v h hl =>
    rw [show_text]
    show firstR (39 :: ((quoteL v ++ [39]) ++ r)) = _
    rw [List.append_assoc]
    show firstR (39 :: (quoteL v ++ 39 :: r)) = _
    rw [first_text h hl hr]
    simp
  | bytes v hl =>
    rw [show_bytes]
    show firstR (120 :: 39 :: ((hexL v ++ [39]) ++ r)) = _
    rw [List.append_assoc]
    show firstR (120 :: 39 :: (hexL v ++ 39 :: r)) = _
    rw [first_bytes hl]
    simp [hexL_len]; omega

theorem show_head {t : Tok} (h : TokOK t) : ∃ c s, showT t = c :: s ∧ blankB c = false ∧ (c = 45 → s = []) := by
  cases h with
  | name c s hc ha hl hlow hw => exact ⟨c, s, rfl, (letter_not c (ha c (by simp))).2.1, fun e => absurd e (letter_not c (ha c (by simp))).2.2⟩
  | word s h =>
    obtain ⟨h1, h2, h3, h4, h5⟩ := words_ok s h
    cases s with
    | nil => exact absurd rfl h1
    | cons c s =>
      have hc : nameB c = true := letter_name c h2
      exact ⟨c, s, rfl, (letter_not c hc).2.1, fun e => absurd e (letter_not c hc).2.2⟩
  | sym s h =>
    obtain ⟨h0, _, _, _, _, _, _, h7, h8⟩ := syms_ok s h
    cases s with
    | nil => exact absurd rfl h0
    | cons c s => exact ⟨c, s, rfl, h7, fun e => by have := h8 e; simpa using (List.cons.inj this).2⟩
  | int v h =>
    obtain ⟨h1, h2, h3⟩ := dd_spec v v (Nat.le_refl _)
    rw [show_int v h]
    match hd : Lib.decDigits v, h1, h2 with
    | [], _, h2 => exact absurd rfl h2
    | c :: s, h1, _ => exact ⟨c, s, rfl, (digit_not c (h1 c (by simp))).2.2.2.1, fun e => absurd e (digit_not c (h1 c (by simp))).2.2.2.2.1⟩
  | dec v h =>
    obtain ⟨h1, h2, h3⟩ := dd_spec (v / 10000) _ (Nat.le_refl _)
    rw [show_dec v h]
    match hd : Lib.decDigits (v / 10000), h1, h2 with
    | [], _, h2 => exact absurd rfl h2
    | c :: s, h1, _ => exact ⟨c, _, rfl, (digit_not c (h1 c (by simp))).2.2.2.1, fun e => absurd e (digit_not c (h1 c (by simp))).2.2.2.2.1⟩
  | text v h hl => exact ⟨39, _, rfl, by decide, fun e => absurd e (by decide)⟩
  | bytes v hl => exact ⟨120, _, rfl, by decide, fun e => absurd e (by decide)⟩

/-! ### what the lexer tells is such a token -/
theorem head_of {l : List UInt8} (hne : l ≠ []) : ∃ c r, l = c :: r := by cases l with
  | nil => exact absurd rfl hne
  | cons c r => exact ⟨c, r, rfl⟩
theorem first_ok {l : List UInt8} (hne : l ≠ []) (h : (firstR l).2.2 = 0) : TokOK (firstR l).1 := by
  unfold firstR at h ⊢
  by_cases hq : hexQ l = true
  · rw [if_pos hq] at h ⊢
    unfold octR at h ⊢
    split at h
    · simp at h
    · rename_i h1
      rw [if_neg h1]
      split at h
      · simp at h
      · rename_i h2
        rw [if_neg h2]
        split at h
        · simp at h
        · rename_i h3
          rw [if_neg h3]
          have hev : octN l = 2 * (octN l / 2) := by have := (not_or.1 h2).2; omega
          refine TokOK.bytes _ ?_
          rw [pairB_len (octN l / 2) _ (by rw [List.length_take]; have := runN_le hexB (l.drop 2); unfold octN at hev ⊢; omega)]
          omega
  · rw [if_neg hq] at h ⊢
    by_cases hl : letterB (l.getD 0 0) = true
    · rw [if_pos hl] at h ⊢
      unfold nameR at h ⊢
      split at h
      · simp at h
      · rename_i h1
        rw [if_neg h1]
        obtain ⟨c, r, rfl⟩ := head_of hne
        have hc : letterB c = true := hl
        have ht : (c :: r).take (runN nameB (c :: r)) = c :: r.take (runN nameB r) := by
          rw [runN_cons, if_pos (letter_name c hc), List.take_succ_cons]
        have hall := run_all nameB (c :: r)
        have hlen : ((c :: r).take (runN nameB (c :: r))).length ≤ 20 := by rw [List.length_take]; omega
        rw [ht] at hall hlen ⊢
        split
        · rename_i h2
          exact TokOK.word _ ((isWord_iff _).1 h2)
        · rename_i h2
          have hmap : Lib.toLowerA (c :: r.take (runN nameB r)) = Lib.lowerB c :: (r.take (runN nameB r)).map Lib.lowerB := rfl
          rw [hmap]
          refine TokOK.name _ _ ((lower_name c (hall c (by simp))).2.2.2 hc) ?_ ?_ ?_ ?_
          · intro x hx
            rw [← List.map_cons] at hx
            obtain ⟨y, hy, rfl⟩ := List.mem_map.1 hx
            exact (lower_name y (hall y hy)).1
          · simpa using hlen
          · rw [← List.map_cons]
            unfold Lib.toLowerA
            rw [List.map_map]
            exact List.map_congr_left fun y hy => (lower_name y (hall y hy)).2.1
          · rw [← List.map_cons]
            unfold Lib.toUpperA
            rw [List.map_map]
            have : (c :: r.take (runN nameB r)).map (Lib.upperB ∘ Lib.lowerB) = Lib.toUpperA (c :: r.take (runN nameB r)) := List.map_congr_left fun y hy => (lower_name y (hall y hy)).2.2.1
            rw [this]; simpa using h2
    · rw [if_neg hl] at h ⊢
      by_cases hd : digitB (l.getD 0 0) = true
      · rw [if_pos hd] at h ⊢
        unfold numR at h ⊢
        split at h
        · simp at h
        · rename_i h1
          rw [if_neg h1]
          split at h
          · simp at h
          · rename_i h2
            rw [if_neg h2]
            have hv := Nat.le_of_not_lt (not_or.1 h2).1
            by_cases hf : 0 < numF l
            · rw [if_pos hf]; exact TokOK.dec _ hv
            · rw [if_neg hf]; exact TokOK.int _ hv
      · rw [if_neg hd] at h ⊢
        by_cases h39 : l.getD 0 0 = 39
        · rw [if_pos h39] at h ⊢
          obtain ⟨c, r, rfl⟩ := head_of hne
          obtain rfl : c = 39 := h39
          unfold txtR at h ⊢
          by_cases hts : (tsR (39 :: r)).2 = 0
          · rw [if_pos hts] at h ⊢
            split at h
            · simp at h
            · rename_i h1
              rw [if_neg h1]
              have h0 : (textS false r).2 = 0 := by
                unfold tsR at hts
                rw [List.drop_one, List.tail_cons] at hts
                split at hts
                · simp at hts
                · exact hts
              obtain ⟨v, q, e1, e2, e3⟩ := textS_spec _ r (Nat.le_refl _) h0
              have hs : (tsR (39 :: r)).1 = (quoteL v).length + 2 := by
                unfold tsR
                rw [List.drop_one, List.tail_cons, if_neg (by rw [h0]; simp)]
                show 1 + (textS false r).1 = _
                rw [e3]; omega
              have hval : txtV (39 :: r) = v := by
                unfold txtV
                rw [hs, List.drop_one, List.tail_cons, e1]
                show Lib.replaceAll ((quoteL v ++ 39 :: q).take (quoteL v).length) [39, 39] [39] = v
                rw [take_app, replaceAll_unq]
              rw [hval] at h1 ⊢
              exact TokOK.text v e2 (by omega)
          · rw [if_neg hts] at h
            exact absurd h hts
        · rw [if_neg h39] at h ⊢
          unfold symR at h ⊢
          split at h
          · rename_i p hp
            exact TokOK.sym p (List.mem_of_find?_eq_some hp)
          · simp at h

/-- Of a text that is taken apart: its tokens, and a last one at its end. -/
theorem lexS_ok : ∀ (f pos : Nat) (l : List UInt8), (lexS f pos l).2.1 = 0 → ∃ L, (lexS f pos l).1 = L ++ [(Tok.zero, pos + l.length)] ∧ (∀ x ∈ L, TokOK x.1) ∧ L.length ≤ f := by
  intro f
  induction f with
  | zero =>
    intro pos l h
    by_cases hl : l = []
    · subst hl; rw [lexS_nil]; exact ⟨[], rfl, by simp, Nat.le_refl _⟩
    · rw [lexS_full pos hl] at h; simp at h
  | succ f ih =>
    intro pos l h
    by_cases hl : l = []
    · subst hl; rw [lexS_nil]; exact ⟨[], rfl, by simp, by simp⟩
    · by_cases hb : (firstR l).2.2 = 0
      · have hsz := first_size l hl
        have ht := first_ok hl hb
        rw [lexS_go f pos hl hb] at h ⊢
        have hn2 := hsz.1
        generalize hn : (firstR l).2.1 = n at *
        have hg := gapN_le (l.drop n)
        obtain ⟨L, e1, e2, e3⟩ := ih _ _ h
        refine ⟨((firstR l).1, pos) :: L, ?_, ?_, by simp; omega⟩
        · rw [e1]
          rw [List.length_drop] at hg
          rw [List.length_drop, List.length_drop, show pos + n + gapN (l.drop n) + (l.length - n - gapN (l.drop n)) = pos + l.length by omega]; rfl
        · intro x hx
          rw [List.mem_cons] at hx
          rcases hx with rfl | hx
          · exact ht
          · exact e2 x hx
      · rw [lexS_bad f pos hl hb] at h; exact absurd h hb
theorem lexR_ok (l : List UInt8) (h : (lexR l).2.1 = 0) : ∃ L, (lexR l).1 = L ++ [(Tok.zero, l.length)] ∧ (∀ x ∈ L, TokOK x.1) ∧ L.length ≤ 1000 := by
  unfold lexR at h ⊢
  obtain ⟨L, e1, e2, e3⟩ := lexS_ok _ _ _ h
  refine ⟨L, ?_, e2, e3⟩
  have := gapN_le l
  rw [e1, List.length_drop, show gapN l + (l.length - gapN l) = l.length by omega]

/-! ### blanks and comments -/
theorem gap_blank {b : UInt8} (hb : blankB b = true) (X : List UInt8) : gapN (b :: X) = 1 + gapN X := by
  unfold gapN
  rw [runN_cons, if_pos hb, List.drop_succ_cons]; omega
theorem gap_comment {c : List UInt8} (hc : ∀ x ∈ c, lineB x = true) (X : List UInt8) : gapN (45 :: 45 :: (c ++ 10 :: X)) = c.length + 3 + gapN X := by
  have h0 : runN blankB (45 :: 45 :: (c ++ 10 :: X)) = 0 := rfl
  have hp : Lib.hasPrefix (45 :: 45 :: (c ++ 10 :: X)) [45, 45] = true := by simp [Lib.hasPrefix, List.isPrefixOf]
  have hall : ∀ x ∈ 45 :: 45 :: c, lineB x = true := by
    intro x hx
    simp only [List.mem_cons] at hx
    rcases hx with rfl | rfl | hx
    · decide
    · decide
    · exact hc x hx
  have hrun : runN lineB (45 :: 45 :: (c ++ 10 :: X)) = c.length + 2 := run_app (s := 45 :: 45 :: c) hall (.inr ⟨10, X, rfl, by decide⟩)
  have hd : (45 :: 45 :: (c ++ 10 :: X)).drop (c.length + 2) = 10 :: X := drop_app (45 :: 45 :: c) (10 :: X)
  have hline : lineN (45 :: 45 :: (c ++ 10 :: X)) = c.length + 2 + (1 + runN blankB X) := by
    unfold lineN
    rw [hrun, hd, runN_cons, if_pos (by decide)]; omega
  unfold gapN
  rw [h0, List.drop_zero, gapT_yes hp, hline]
  have hd2 : (45 :: 45 :: (c ++ 10 :: X)).drop (c.length + 2 + (1 + runN blankB X)) = X.drop (runN blankB X) := by
    rw [← List.drop_drop, hd, Nat.add_comm 1, List.drop_succ_cons]
  rw [hd2]; omega
/-- Blanks and comments that end behind themselves. -/
def GapSep (σ : List UInt8) : Prop := ∀ X, gapN (σ ++ X) = σ.length + gapN X
theorem gapSep_nil : GapSep [] := fun X => by simp
theorem gapSep_blank {b : UInt8} (hb : blankB b = true) {σ : List UInt8} (h : GapSep σ) : GapSep (b :: σ) := fun X => by
  rw [List.cons_append, gap_blank hb, h X, List.length_cons]; omega
theorem gapSep_comment {c : List UInt8} (hc : ∀ x ∈ c, lineB x = true) {σ : List UInt8} (h : GapSep σ) : GapSep (45 :: 45 :: (c ++ 10 :: σ)) := fun X => by
  show gapN (45 :: 45 :: ((c ++ 10 :: σ) ++ X)) = _
  rw [List.append_assoc]
  show gapN (45 :: 45 :: (c ++ 10 :: (σ ++ X))) = _
  rw [gap_comment hc, h X]
  simp; omega
def SepOK (σ : List UInt8) : Prop := (∃ b σ', σ = b :: σ' ∧ blankB b = true) ∧ GapSep σ

theorem gap_show {t : Tok} (h : TokOK t) {r : List UInt8} (hr : Stop r) : gapN (showT t ++ r) = 0 := by
  obtain ⟨c, s, e, h1, h2⟩ := show_head h
  have hp : Lib.hasPrefix (showT t ++ r) [45, 45] = false := by
    rw [prefix_stop hr _ _ (by decide +kernel), e]
    by_cases hc : c = 45
    · rw [h2 hc]; simp [Lib.hasPrefix, List.isPrefixOf]
    · simp [Lib.hasPrefix, List.isPrefixOf, Ne.symm hc]
  unfold gapN
  rw [e] at hp ⊢
  rw [List.cons_append] at hp ⊢
  rw [runN_cons, if_neg (by rw [h1]; simp), List.drop_zero, gapT_no hp]

def joinT : List (Tok × List UInt8) → List UInt8
  | [] => []
  | x :: l => showT x.1 ++ (x.2 ++ joinT l)
theorem joinT_append (a b : List (Tok × List UInt8)) : joinT (a ++ b) = joinT a ++ joinT b := by
  induction a with
  | nil => rfl
  | cons x a ih => rw [List.cons_append, joinT, ih, joinT, List.append_assoc, List.append_assoc]

theorem lexS_join : ∀ (l : List (Tok × List UInt8)) (f pos : Nat) (σ : List UInt8), l.length ≤ f → (∀ x ∈ l, TokOK x.1 ∧ SepOK x.2) → GapSep σ →
    (lexS f pos ((joinT l ++ σ).drop (gapN (joinT l ++ σ)))).2.1 = 0 ∧ (lexS f pos ((joinT l ++ σ).drop (gapN (joinT l ++ σ)))).1.map Prod.fst = l.map Prod.fst ++ [Tok.zero]
  | [], f, pos, σ, _, _, hσ => by
    have h := hσ []
    rw [List.append_nil] at h
    have h0 : gapN ([] : List UInt8) = 0 := Nat.le_zero.1 (gapN_le [])
    rw [h0, Nat.add_zero] at h
    show (lexS f pos ((([] : List UInt8) ++ σ).drop (gapN (([] : List UInt8) ++ σ)))).2.1 = 0 ∧ (lexS f pos ((([] : List UInt8) ++ σ).drop (gapN (([] : List UInt8) ++ σ)))).1.map Prod.fst = _
    rw [List.nil_append, h, List.drop_length, lexS_nil]
    exact ⟨rfl, rfl⟩
  | x :: l, 0, pos, σ, h, _, _ => by simp at h
  | x :: l, f + 1, pos, σ, hl, hx, hσ => by
    obtain ⟨hT, ⟨b, σ', hb, hbl⟩, hG⟩ := hx x (by simp)
    have e : joinT (x :: l) ++ σ = showT x.1 ++ (x.2 ++ (joinT l ++ σ)) := by rw [joinT, List.append_assoc, List.append_assoc]
    have hst : Stop (x.2 ++ (joinT l ++ σ)) := .inr ⟨b, σ' ++ (joinT l ++ σ), by rw [hb]; rfl, hbl⟩
    have hg := gap_show hT hst
    have hf := first_show hT hst
    rw [e, hg, List.drop_zero]
    have hne : showT x.1 ++ (x.2 ++ (joinT l ++ σ)) ≠ [] := by
      obtain ⟨c, s, e2, _⟩ := show_head hT
      rw [e2]; simp
    have h0 : (firstR (showT x.1 ++ (x.2 ++ (joinT l ++ σ)))).2.2 = 0 := by rw [hf]
    rw [lexS_go f pos hne h0, hf]
    simp only []
    rw [drop_app, hG (joinT l ++ σ)]
    have hd : (x.2 ++ (joinT l ++ σ)).drop (x.2.length + gapN (joinT l ++ σ)) = (joinT l ++ σ).drop (gapN (joinT l ++ σ)) := by rw [← List.drop_drop, drop_app]
    rw [hd]
    obtain ⟨h1, h2⟩ := lexS_join l f (pos + (showT x.1).length + (x.2.length + gapN (joinT l ++ σ))) σ (by simp at hl; omega) (fun y hy => hx y (by simp [hy])) hσ
    refine ⟨h1, ?_⟩
    rw [List.map_cons, h2]; rfl
theorem lexR_join (l : List (Tok × List UInt8)) (σ : List UInt8) (hl : l.length ≤ 1000) (hx : ∀ x ∈ l, TokOK x.1 ∧ SepOK x.2) (hσ : GapSep σ) :
    (lexR (joinT l ++ σ)).2.1 = 0 ∧ (lexR (joinT l ++ σ)).1.map Prod.fst = l.map Prod.fst ++ [Tok.zero] := lexS_join l 1000 _ σ hl hx hσ

/-- A token alone. -/
theorem lexR_one {t : Tok} (h : TokOK t) : lexR (showT t) = ([(t, 0), (Tok.zero, (showT t).length)], 0, 0) := by
  have hst : Stop ([] : List UInt8) := .inl rfl
  have hg := gap_show h hst
  have hf := first_show h hst
  rw [List.append_nil] at hg hf
  have hne : showT t ≠ [] := by obtain ⟨c, s, e2, _⟩ := show_head h; rw [e2]; simp
  unfold lexR
  rw [hg, List.drop_zero, lexS_go 999 0 hne (by rw [hf]), hf]
  simp only []
  rw [List.drop_length]
  have h0 : gapN ([] : List UInt8) = 0 := Nat.le_zero.1 (gapN_le [])
  rw [h0, List.drop_zero, lexS_nil]
  simp

end Go.Proofs.YtlmjijiepnefdaaGreatDoor
