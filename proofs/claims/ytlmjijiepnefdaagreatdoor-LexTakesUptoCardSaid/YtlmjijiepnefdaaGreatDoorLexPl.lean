/-
  From a token's place on the text begins with that token.
-/
import Derived.Test.YtlmjijiepnefdaaGreatDoorLexLex
namespace Go.Proofs.YtlmjijiepnefdaaGreatDoor
open Go.RowKit

theorem run_drop (p : UInt8 → Bool) (l : List UInt8) : runN p (l.drop (runN p l)) = 0 := by
  induction l with
  | nil => rfl
  | cons c l ih =>
    rw [runN_cons]
    by_cases h : p c = true
    · rw [if_pos h, List.drop_succ_cons]; exact ih
    · rw [if_neg h, List.drop_zero, runN_cons, if_neg h]

theorem gapT_drop : ∀ (n : Nat) (l : List UInt8), l.length = n → runN blankB l = 0 → gapN (l.drop (gapT l)) = 0 := by
  intro n
  induction n using Nat.strongRecOn with
  | _ n ih =>
    intro l hl hb
    by_cases h : Lib.hasPrefix l [45, 45] = true
    · rw [gapT_yes h]
      have hpos := lineN_pos h
      obtain ⟨r, hr⟩ := hasPrefix_cons h
      have hlen : l.length = r.length + 2 := by rw [hr]; rfl
      have h2 : runN blankB (l.drop (lineN l)) = 0 := by
        have e : lineN l = runN lineB l + runN blankB (l.drop (runN lineB l)) := rfl
        rw [e, ← List.drop_drop]
        exact run_drop _ _
      have := ih (l.drop (lineN l)).length (by rw [List.length_drop]; omega) (l.drop (lineN l)) rfl h2
      rw [List.drop_drop] at this
      exact this
    · rw [Bool.not_eq_true] at h
      rw [gapT_no h, List.drop_zero]
      unfold gapN
      rw [hb, List.drop_zero, gapT_no h]

theorem gap_drop (l : List UInt8) : gapN (l.drop (gapN l)) = 0 := by
  have e : gapN l = runN blankB l + gapT (l.drop (runN blankB l)) := rfl
  rw [e, ← List.drop_drop]
  exact gapT_drop _ _ rfl (run_drop _ _)

/-- Where all went well, more room and another place change nothing but the places. -/
theorem lexS_room : ∀ (f pos : Nat) (l : List UInt8), (lexS f pos l).2.1 = 0 → ∀ f' pos', f ≤ f' → (lexS f' pos' l).2.1 = 0 ∧ (lexS f' pos' l).1.length = (lexS f pos l).1.length := by
  intro f
  induction f with
  | zero =>
    intro pos l h f' pos' hf
    by_cases hl : l = []
    · subst hl; rw [lexS_nil, lexS_nil]; exact ⟨rfl, rfl⟩
    · rw [lexS_full pos hl] at h; simp at h
  | succ f ih =>
    intro pos l h f' pos' hf
    by_cases hl : l = []
    · subst hl; rw [lexS_nil, lexS_nil]; exact ⟨rfl, rfl⟩
    · by_cases hb : (firstR l).2.2 = 0
      · obtain ⟨f', rfl⟩ : ∃ g, f' = g + 1 := ⟨f' - 1, by omega⟩
        rw [lexS_go f pos hl hb] at h ⊢
        rw [lexS_go f' pos' hl hb]
        have := ih _ _ h f' (pos' + (firstR l).2.1 + gapN (l.drop (firstR l).2.1)) (by omega)
        exact ⟨this.1, by simp only [List.length_cons]; rw [this.2]⟩
      · rw [lexS_bad f pos hl hb] at h; exact absurd h hb

theorem lexS_head (f pos : Nat) (l : List UInt8) (h : (lexS f pos l).2.1 = 0) : (lexS f pos l).1[0]? = some (if l = [] then Tok.zero else (firstR l).1, pos) := by
  by_cases hl : l = []
  · subst hl; rw [lexS_nil]; simp
  · cases f with
    | zero => rw [lexS_full pos hl] at h; simp at h
    | succ f =>
      by_cases hb : (firstR l).2.2 = 0
      · rw [lexS_go f pos hl hb, if_neg hl]; rfl
      · rw [lexS_bad f pos hl hb] at h; exact absurd h hb

/-- What the law asks of the token at a place. -/
def PlaceOk (l : List UInt8) (L : List (Tok × Nat)) (pos i : Nat) (t : Tok) (p : Nat) : Prop :=
  pos ≤ p ∧ p - pos ≤ l.length ∧ (∀ q, 0 < i → L[i - 1]? = some q → q.2 < p) ∧
  (lexR (l.drop (p - pos))).2.1 = 0 ∧ (lexR (l.drop (p - pos))).1.length = L.length - i ∧ (lexR (l.drop (p - pos))).1[0]? = some (t, 0)

theorem lexS_places : ∀ (f pos : Nat) (l : List UInt8), f ≤ 1000 → gapN l = 0 → (lexS f pos l).2.1 = 0 → ∀ i t p, (lexS f pos l).1[i]? = some (t, p) → PlaceOk l (lexS f pos l).1 pos i t p := by
  intro f
  induction f with
  | zero =>
    intro pos l hf hg h i t p hi
    by_cases hl : l = []
    · subst hl
      rw [lexS_nil] at hi ⊢
      cases i with
      | zero =>
        obtain ⟨rfl, rfl⟩ : Tok.zero = t ∧ pos = p := by simpa using hi
        have e : lexR ([] : List UInt8) = ([(Tok.zero, 0)], 0, 0) := by unfold lexR; rw [hg, List.drop_zero, lexS_nil]
        refine ⟨Nat.le_refl _, by simp, fun q h0 => absurd h0 (by omega), ?_, ?_, ?_⟩ <;> rw [Nat.sub_self, List.drop_zero, e] <;> rfl
      | succ i => simp at hi
    · rw [lexS_full pos hl] at h; simp at h
  | succ f ih =>
    intro pos l hf hg h i t p hi
    cases i with
    | zero =>
      have hh := lexS_head (f + 1) pos l h
      rw [hh] at hi
      obtain ⟨ht, hp⟩ : (if l = [] then Tok.zero else (firstR l).1) = t ∧ pos = p := by simpa using hi
      subst hp
      have hr := lexS_room (f + 1) pos l h 1000 0 hf
      have e : lexR l = lexS 1000 0 l := by unfold lexR; rw [hg, List.drop_zero]
      have h0 := lexS_head 1000 0 l hr.1
      rw [ht] at h0
      refine ⟨Nat.le_refl _, by omega, fun q h0 => absurd h0 (by omega), ?_, ?_, ?_⟩ <;> rw [Nat.sub_self, List.drop_zero, e]
      · exact hr.1
      · exact hr.2
      · exact h0
    | succ i =>
      by_cases hl : l = []
      · subst hl; rw [lexS_nil] at hi; simp at hi
      · by_cases hb : (firstR l).2.2 = 0
        · have hsz := first_size l hl
          have hn1 := hsz.2 hb
          have hn2 := hsz.1
          rw [lexS_go f pos hl hb] at hi h ⊢
          generalize hn : (firstR l).2.1 = n at *
          generalize hgg : gapN (l.drop n) = g at *
          have hg2 : gapN ((l.drop n).drop g) = 0 := by rw [← hgg]; exact gap_drop _
          have hgl : g ≤ (l.drop n).length := by rw [← hgg]; exact gapN_le _
          rw [List.length_drop] at hgl
          have hdd : (l.drop n).drop g = l.drop (n + g) := List.drop_drop
          rw [hdd] at hg2 hi h ⊢
          have hi2 : (lexS f (pos + n + g) (l.drop (n + g))).1[i]? = some (t, p) := by simpa using hi
          obtain ⟨q1, q2, q3, q4, q5, q6⟩ := ih (pos + n + g) (l.drop (n + g)) (by omega) hg2 h i t p hi2
          rw [List.length_drop] at q2
          have e : (l.drop (n + g)).drop (p - (pos + n + g)) = l.drop (p - pos) := by rw [List.drop_drop]; congr 1; omega
          rw [e] at q4 q5 q6
          refine ⟨by omega, by omega, ?_, q4, by rw [q5]; simp, q6⟩
          intro q _ hq
          cases i with
          | zero =>
            obtain rfl : ((firstR l).1, pos) = q := by simpa using hq
            show pos < p; omega
          | succ i => exact q3 q (by omega) (by simpa using hq)
        · rw [lexS_bad f pos hl hb] at h; exact absurd h hb

theorem lexR_places (l : List UInt8) (h : (lexR l).2.1 = 0) (i : Nat) (t : Tok) (p : Nat) (hi : (lexR l).1[i]? = some (t, p)) : PlaceOk l (lexR l).1 0 i t p := by
  have hgl := gapN_le l
  unfold lexR at h hi
  obtain ⟨q1, q2, q3, q4, q5, q6⟩ := lexS_places 1000 (gapN l) (l.drop (gapN l)) (Nat.le_refl _) (gap_drop l) h i t p hi
  rw [List.length_drop] at q2
  have e : (l.drop (gapN l)).drop (p - gapN l) = l.drop p := by rw [List.drop_drop]; congr 1; omega
  rw [e] at q4 q5 q6
  exact ⟨Nat.zero_le _, by omega, q3, by rw [Nat.sub_zero]; exact q4, by rw [Nat.sub_zero]; exact q5, by rw [Nat.sub_zero]; exact q6⟩

theorem lexR_a : (lexR [97]).2.1 = 0 ∧ 0 < (lexR [97]).1.length := by
  have hg : gapN [97] = 0 := by
    unfold gapN
    rw [show runN blankB [97] = 0 by decide +kernel, List.drop_zero, gapT_no (by decide +kernel)]
  unfold lexR
  rw [hg, List.drop_zero, lexS_go 999 0 (by simp) (by decide +kernel)]
  have e1 : (firstR [97]).2.1 = 1 := by decide +kernel
  rw [e1]
  show (lexS 999 _ (([] : List UInt8).drop _)).2.1 = 0 ∧ _
  rw [List.drop_nil, lexS_nil]
  exact ⟨rfl, by simp⟩

end Go.Proofs.YtlmjijiepnefdaaGreatDoor
