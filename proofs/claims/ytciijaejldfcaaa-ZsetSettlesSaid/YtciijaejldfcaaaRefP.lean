/-
  The reference's counted rows, of plain lists: rows put into a rising list, and what each row comes to.
-/
import Derived.Test.YtciijaejldfcaaaSumP
namespace Go.Proofs.Ytciijaejldfcaaa
open Go.RowKit

/-- A row as it lies, and its values. -/
structure Rw where
  v : Value
  l : List Dat
instance : Inhabited Rw := ⟨⟨.slice none 0 0, []⟩⟩

/-- A row put into a list, and whether it has been. -/
def insGo (x : Rw) (s : Bool × List Rw) (r : Rw) : Bool × List Rw :=
  if s.1 = false ∧ cmpR x.l r.l ≤ 0 then (true, if cmpR x.l r.l < 0 then s.2 ++ [x, r] else s.2 ++ [r]) else (s.1, s.2 ++ [r])
def insAll (x : Rw) (L : List Rw) : Bool × List Rw := L.foldl (insGo x) (false, [])
def insR (x : Rw) (L : List Rw) : List Rw := if (insAll x L).1 then (insAll x L).2 else (insAll x L).2 ++ [x]
theorem insAll_take (x : Rw) (L : List Rw) (k : Nat) (h : k < L.length) : insAll x (L.take (k + 1)) = insGo x (insAll x (L.take k)) L[k] := by
  unfold insAll
  rw [List.take_succ_eq_append_getElem h, List.foldl_append]; rfl
theorem insGo_len (x : Rw) (s : Bool × List Rw) (r : Rw) (k : Nat) (h : s.2.length ≤ k + (if s.1 then 1 else 0)) : (insGo x s r).2.length ≤ k + 1 + (if (insGo x s r).1 then 1 else 0) := by
  unfold insGo
  split
  · rename_i hc
    rw [hc.1] at h
    dsimp only
    split <;> simp at h ⊢ <;> omega
  · simp at h ⊢; omega
theorem insAll_len (x : Rw) (L : List Rw) : ∀ k, k ≤ L.length → (insAll x (L.take k)).2.length ≤ k + (if (insAll x (L.take k)).1 then 1 else 0)
  | 0, _ => by simp [insAll]
  | k + 1, h => by
    rw [insAll_take x L k (by omega)]
    exact insGo_len x _ _ k (insAll_len x L k (by omega))

/-- Rising rows, none twice. -/
def Rise (L : List Rw) : Prop := L.Pairwise fun a b => cmpR a.l b.l < 0

/-- What has been made behind the rows of a rising list. -/
structure InsInv (x : Rw) (L : List Rw) (s : Bool × List Rw) : Prop where
  rise : Rise s.2
  mem : ∀ r, (∃ y ∈ s.2, y.l = r) ↔ ((∃ y ∈ L, y.l = r) ∨ (s.1 = true ∧ x.l = r))
  sub : ∀ y ∈ s.2, y ∈ L ∨ y = x
  ahead : s.1 = false → ∀ y ∈ L, cmpR y.l x.l < 0
  far : s.1 = true → ∃ y ∈ L, cmpR x.l y.l ≤ 0

theorem cmpR_lt_le {a b c : List Dat} (h : cmpR a b < 0) (k : cmpR b c ≤ 0) : cmpR a c < 0 := by
  have h1 := cmpR_trans a b c (by omega) k
  rcases Int.lt_or_eq_of_le h1 with h2 | h2
  · exact h2
  · have e := cmpR_eq _ _ h2
    subst e
    have := cmpR_anti a b
    omega
theorem cmpR_le_lt {a b c : List Dat} (h : cmpR a b ≤ 0) (k : cmpR b c < 0) : cmpR a c < 0 := by
  have h1 := cmpR_trans a b c h (by omega)
  rcases Int.lt_or_eq_of_le h1 with h2 | h2
  · exact h2
  · have e := cmpR_eq _ _ h2
    subst e
    have := cmpR_anti a b
    omega

theorem insInv_go {x r : Rw} {L : List Rw} {s : Bool × List Rw} (h : InsInv x L s) (hL : Rise (L ++ [r])) : InsInv x (L ++ [r]) (insGo x s r) := by
  have hlast : ∀ y ∈ L, cmpR y.l r.l < 0 := by
    intro y hy
    exact (List.pairwise_append.mp hL).2.2 y hy r (by simp)
  by_cases hc : s.1 = false ∧ cmpR x.l r.l ≤ 0
  · have hah := h.ahead hc.1
    have hs2 : ∀ y ∈ s.2, y ∈ L := fun y hy => by
      rcases h.sub y hy with q | q
      · exact q
      · subst q
        obtain ⟨z, hz, e⟩ | ⟨e, _⟩ := (h.mem y.l).mp ⟨y, hy, rfl⟩
        · have := hah z hz
          rw [e, cmpR_self] at this; omega
        · rw [hc.1] at e; cases e
    unfold insGo
    rw [if_pos hc]
    by_cases hlt : cmpR x.l r.l < 0
    · rw [if_pos hlt]
      refine ⟨?_, ?_, ?_, fun e => by simp at e, fun _ => ⟨r, by simp, by omega⟩⟩
      · unfold Rise
        rw [List.pairwise_append]
        refine ⟨h.rise, ?_, ?_⟩
        · simp only [List.pairwise_cons, List.mem_singleton, forall_eq, List.not_mem_nil, false_implies, implies_true, List.Pairwise.nil, and_true]
          exact hlt
        · intro a ha b hb
          simp only [List.mem_cons, List.not_mem_nil, or_false] at hb
          rcases hb with rfl | rfl
          · exact hah a (hs2 a ha)
          · exact hlast a (hs2 a ha)
      · intro q
        constructor
        · rintro ⟨y, hy, e⟩
          rcases List.mem_append.mp hy with hy | hy
          · exact .inl ⟨y, by simp [hs2 y hy], e⟩
          · simp only [List.mem_cons, List.not_mem_nil, or_false] at hy
            rcases hy with rfl | rfl
            · exact .inr ⟨rfl, e⟩
            · exact .inl ⟨y, by simp, e⟩
        · rintro (⟨y, hy, e⟩ | ⟨_, e⟩)
          · rcases List.mem_append.mp hy with hy | hy
            · obtain ⟨z, hz, ez⟩ := (h.mem q).mpr (.inl ⟨y, hy, e⟩)
              exact ⟨z, by simp [hz], ez⟩
            · simp only [List.mem_singleton] at hy
              subst hy
              exact ⟨y, by simp, e⟩
          · exact ⟨x, by simp, e⟩
      · intro y hy
        rcases List.mem_append.mp hy with hy | hy
        · exact .inl (by simp [hs2 y hy])
        · simp only [List.mem_cons, List.not_mem_nil, or_false] at hy
          rcases hy with rfl | rfl
          · exact .inr rfl
          · exact .inl (by simp)
    · rw [if_neg hlt]
      have he : x.l = r.l := cmpR_eq _ _ (by omega)
      refine ⟨?_, ?_, ?_, fun e => by simp at e, fun _ => ⟨r, by simp, by omega⟩⟩
      · unfold Rise
        rw [List.pairwise_append]
        refine ⟨h.rise, by simp, ?_⟩
        intro a ha b hb
        simp only [List.mem_singleton] at hb
        subst hb
        exact hlast a (hs2 a ha)
      · intro q
        constructor
        · rintro ⟨y, hy, e⟩
          rcases List.mem_append.mp hy with hy | hy
          · exact .inl ⟨y, by simp [hs2 y hy], e⟩
          · simp only [List.mem_singleton] at hy
            subst hy
            exact .inl ⟨y, by simp, e⟩
        · rintro (⟨y, hy, e⟩ | ⟨_, e⟩)
          · rcases List.mem_append.mp hy with hy | hy
            · obtain ⟨z, hz, ez⟩ := (h.mem q).mpr (.inl ⟨y, hy, e⟩)
              exact ⟨z, by simp [hz], ez⟩
            · simp only [List.mem_singleton] at hy
              subst hy
              exact ⟨y, by simp, e⟩
          · exact ⟨r, by simp, by rw [← he]; exact e⟩
      · intro y hy
        rcases List.mem_append.mp hy with hy | hy
        · exact .inl (by simp [hs2 y hy])
        · simp only [List.mem_singleton] at hy
          exact .inl (by simp [hy])
  · unfold insGo
    rw [if_neg hc]
    have hxr : s.1 = true → cmpR x.l r.l < 0 := by
      intro ht
      obtain ⟨y, hy, hxy⟩ := h.far ht
      exact cmpR_le_lt hxy (hlast y hy)
    refine ⟨?_, ?_, ?_, ?_, ?_⟩
    · unfold Rise
      rw [List.pairwise_append]
      refine ⟨h.rise, by simp, ?_⟩
      intro a ha b hb
      simp only [List.mem_singleton] at hb
      subst hb
      obtain ⟨z, hz, e⟩ | ⟨ht, e⟩ := (h.mem a.l).mp ⟨a, ha, rfl⟩
      · rw [← e]; exact hlast z hz
      · rw [← e]; exact hxr ht
    · intro q
      constructor
      · rintro ⟨y, hy, e⟩
        rcases List.mem_append.mp hy with hy | hy
        · rcases (h.mem q).mp ⟨y, hy, e⟩ with ⟨z, hz, ez⟩ | ht
          · exact .inl ⟨z, by simp [hz], ez⟩
          · exact .inr ht
        · simp only [List.mem_singleton] at hy
          subst hy
          exact .inl ⟨y, by simp, e⟩
      · rintro (⟨y, hy, e⟩ | ht)
        · rcases List.mem_append.mp hy with hy | hy
          · obtain ⟨z, hz, ez⟩ := (h.mem q).mpr (.inl ⟨y, hy, e⟩)
            exact ⟨z, by simp [hz], ez⟩
          · simp only [List.mem_singleton] at hy
            subst hy
            exact ⟨y, by simp, e⟩
        · obtain ⟨z, hz, ez⟩ := (h.mem q).mpr (.inr ht)
          exact ⟨z, by simp [hz], ez⟩
    · intro y hy
      rcases List.mem_append.mp hy with hy | hy
      · rcases h.sub y hy with q | q
        · exact .inl (by simp [q])
        · exact .inr q
      · simp only [List.mem_singleton] at hy
        exact .inl (by simp [hy])
    · intro hf y hy
      rcases List.mem_append.mp hy with hy | hy
      · exact h.ahead hf y hy
      · simp only [List.mem_singleton] at hy
        subst hy
        have h1 : ¬ cmpR x.l y.l ≤ 0 := fun q => hc ⟨hf, q⟩
        have := cmpR_anti x.l y.l
        omega
    · intro ht
      obtain ⟨y, hy, e⟩ := h.far ht
      exact ⟨y, by simp [hy], e⟩

theorem insInv_all (x : Rw) (L : List Rw) (hL : Rise L) : ∀ k, k ≤ L.length → InsInv x (L.take k) (insAll x (L.take k))
  | 0, _ => ⟨by simp [insAll, Rise], by intro r; simp [insAll], by simp [insAll], by simp, by simp [insAll]⟩
  | k + 1, h => by
    have ih := insInv_all x L hL k (by omega)
    rw [insAll_take x L k (by omega)]
    have e := List.take_succ_eq_append_getElem (l := L) (i := k) (by omega)
    rw [e]
    refine insInv_go ih ?_
    rw [← e]
    exact List.Pairwise.sublist (List.take_sublist _ _) hL

theorem insR_rise (x : Rw) (L : List Rw) (hL : Rise L) : Rise (insR x L) ∧ (∀ r, (∃ y ∈ insR x L, y.l = r) ↔ ((∃ y ∈ L, y.l = r) ∨ x.l = r)) ∧ ∀ y ∈ insR x L, y ∈ L ∨ y = x := by
  have h := insInv_all x L hL L.length (Nat.le_refl _)
  rw [List.take_length] at h
  unfold insR
  by_cases ht : (insAll x L).1 = true
  · rw [if_pos ht]
    refine ⟨h.rise, ?_, h.sub⟩
    intro r
    rw [h.mem r]
    constructor
    · rintro (q | q)
      · exact .inl q
      · exact .inr q.2
    · rintro (q | q)
      · exact .inl q
      · exact .inr ⟨ht, q⟩
  · have hf : (insAll x L).1 = false := by simpa using ht
    rw [if_neg ht]
    have hah := h.ahead hf
    refine ⟨?_, ?_, ?_⟩
    · unfold Rise
      rw [List.pairwise_append]
      refine ⟨h.rise, by simp, ?_⟩
      intro a ha b hb
      simp only [List.mem_singleton] at hb
      subst hb
      obtain ⟨z, hz, e⟩ | ⟨e, _⟩ := (h.mem a.l).mp ⟨a, ha, rfl⟩
      · rw [← e]; exact hah z hz
      · rw [hf] at e; cases e
    · intro r
      constructor
      · rintro ⟨y, hy, e⟩
        rcases List.mem_append.mp hy with hy | hy
        · rcases (h.mem r).mp ⟨y, hy, e⟩ with q | ⟨q, _⟩
          · exact .inl q
          · rw [hf] at q; cases q
        · simp only [List.mem_singleton] at hy
          subst hy
          exact .inr e
      · rintro (q | q)
        · obtain ⟨z, hz, ez⟩ := (h.mem r).mpr (.inl q)
          exact ⟨z, by simp [hz], ez⟩
        · exact ⟨x, by simp, q⟩
    · intro y hy
      rcases List.mem_append.mp hy with hy | hy
      · exact h.sub y hy
      · simp only [List.mem_singleton] at hy
        exact .inr hy

/-- The rows of counted rows, rising, each once: behind some. -/
def rowsR (L : List Cnt) : List Rw := L.foldl (fun s c => insR ⟨c.v, c.l⟩ s) []
theorem rowsR_take (L : List Cnt) (k : Nat) (h : k < L.length) : rowsR (L.take (k + 1)) = insR ⟨L[k].v, L[k].l⟩ (rowsR (L.take k)) := by
  unfold rowsR
  rw [List.take_succ_eq_append_getElem h, List.foldl_append]; rfl
theorem rowsR_inv (L : List Cnt) : ∀ k, k ≤ L.length → Rise (rowsR (L.take k)) ∧ (∀ r, (∃ y ∈ rowsR (L.take k), y.l = r) ↔ ∃ y ∈ L.take k, y.l = r) ∧ ∀ y ∈ rowsR (L.take k), ∃ c ∈ L, y.v = c.v ∧ y.l = c.l
  | 0, _ => ⟨by simp [rowsR, Rise], by simp [rowsR], by simp [rowsR]⟩
  | k + 1, h => by
    obtain ⟨h1, h2, h3⟩ := rowsR_inv L k (by omega)
    rw [rowsR_take L k (by omega)]
    obtain ⟨g1, g2, g3⟩ := insR_rise ⟨L[k].v, L[k].l⟩ _ h1
    refine ⟨g1, ?_, ?_⟩
    · intro r
      rw [g2, h2]
      have et := List.take_succ_eq_append_getElem (show k < L.length by omega)
      rw [et]
      constructor
      · rintro (⟨y, hy, e⟩ | e)
        · exact ⟨y, List.mem_append_left _ hy, e⟩
        · exact ⟨L[k], List.mem_append_right _ (by simp), e⟩
      · rintro ⟨y, hy, e⟩
        rcases List.mem_append.mp hy with hy | hy
        · exact .inl ⟨y, hy, e⟩
        · simp only [List.mem_singleton] at hy
          subst hy
          exact .inr e
    · intro y hy
      rcases g3 y hy with q | q
      · exact h3 y q
      · subst q
        exact ⟨L[k], List.getElem_mem _, rfl, rfl⟩
theorem insR_len (x : Rw) (L : List Rw) : (insR x L).length ≤ L.length + 1 := by
  have h := insAll_len x L L.length (Nat.le_refl _)
  rw [List.take_length] at h
  unfold insR
  by_cases ht : (insAll x L).1 = true
  · rw [if_pos ht]
    rw [if_pos ht] at h
    exact h
  · rw [if_neg ht]
    rw [if_neg ht] at h
    simp; omega
theorem rowsR_len (L : List Cnt) : ∀ k, k ≤ L.length → (rowsR (L.take k)).length ≤ k
  | 0, _ => by simp [rowsR]
  | k + 1, h => by
    rw [rowsR_take L k (by omega)]
    have h1 := insR_len ⟨L[k].v, L[k].l⟩ (rowsR (L.take k))
    have h2 := rowsR_len L k (by omega)
    omega

/-- What is told behind some rows. -/
def toldR (sg : Int) (P : List CRow) (R : List (List Dat)) : List CRow := (R.filter fun r => decide (sg * cntR P r ≠ 0)).map fun r => (r, sg * cntR P r)
theorem toldR_snoc (sg : Int) (P : List CRow) (R : List (List Dat)) (r : List Dat) : toldR sg P (R ++ [r]) = if sg * cntR P r ≠ 0 then toldR sg P R ++ [(r, sg * cntR P r)] else toldR sg P R := by
  unfold toldR
  rw [List.filter_append]
  by_cases h : sg * cntR P r ≠ 0
  · rw [if_pos h, List.filter_cons_of_pos (by simpa using h), List.filter_nil, List.map_append]; rfl
  · rw [if_neg h, List.filter_cons_of_neg (by simpa using h), List.filter_nil, List.append_nil]
theorem toldR_cnt (sg : Int) (P : List CRow) (r : List Dat) : ∀ R : List (List Dat), (R.Pairwise fun a b => cmpR a b < 0) → (r ∈ R → cntR (toldR sg P R) r = sg * cntR P r) ∧ (¬ r ∈ R → cntR (toldR sg P R) r = 0)
  | [], _ => by simp [toldR, cntR]
  | q :: R, h => by
    obtain ⟨ih1, ih2⟩ := toldR_cnt sg P r R (List.pairwise_cons.mp h).2
    have h0 := (List.pairwise_cons.mp h).1
    have e : toldR sg P (q :: R) = if sg * cntR P q ≠ 0 then (q, sg * cntR P q) :: toldR sg P R else toldR sg P R := by
      unfold toldR
      by_cases hq : sg * cntR P q ≠ 0
      · rw [if_pos hq, List.filter_cons_of_pos (by simpa using hq)]; rfl
      · rw [if_neg hq, List.filter_cons_of_neg (by simpa using hq)]
    rw [e]
    by_cases hr : r = q
    · subst hr
      have hn : ¬ r ∈ R := fun hm => by have := h0 r hm; rw [cmpR_self] at this; omega
      have i2 := ih2 hn
      refine ⟨fun _ => ?_, fun hx => absurd (by simp) hx⟩
      split
      · rw [cntR, if_pos (by rw [cmpR_self]), i2]; omega
      · rename_i hz
        rw [i2]; omega
    · have hne : cmpR q r ≠ 0 := fun hz => hr (cmpR_eq _ _ hz).symm
      have e2 : cntR (if sg * cntR P q ≠ 0 then (q, sg * cntR P q) :: toldR sg P R else toldR sg P R) r = cntR (toldR sg P R) r := by
        split
        · rw [cntR, if_neg hne]; omega
        · rfl
      rw [e2]
      exact ⟨fun hm => ih1 ((List.mem_cons.mp hm).resolve_left hr), fun hm => ih2 fun hx => hm (List.mem_cons_of_mem _ hx)⟩
/-- What is told of all rows is tidy. -/
theorem toldR_tid (sg : Int) (P : List CRow) (R : List (List Dat)) (h : R.Pairwise fun a b => cmpR a b < 0) (hm : ∀ x ∈ P, x.1 ∈ R) (hf : ∀ r ∈ R, fitsB (sg * cntR P r) = true) : Tid sg P (toldR sg P R) := by
  refine ⟨?_, ?_, ?_⟩
  · unfold toldR
    rw [List.pairwise_map]
    exact List.Pairwise.sublist (List.filter_sublist) h
  · intro x hx
    unfold toldR at hx
    obtain ⟨r, hr, rfl⟩ := List.mem_map.mp hx
    obtain ⟨h1, h2⟩ := List.mem_filter.mp hr
    exact ⟨by simpa using h2, hf r h1⟩
  · intro r
    obtain ⟨c1, c2⟩ := toldR_cnt sg P r R h
    rcases Classical.em (r ∈ R) with hn | hn
    · exact c1 hn
    · rw [c2 hn]
      have : cntR P r = 0 := by
        rcases Int.lt_trichotomy (cntR P r) 0 with q | q | q
        · obtain ⟨x, hx, e⟩ := cntR_some P r (by omega)
          exact absurd (by rw [← cmpR_eq _ _ e]; exact hm x hx) hn
        · exact q
        · obtain ⟨x, hx, e⟩ := cntR_some P r (by omega)
          exact absurd (by rw [← cmpR_eq _ _ e]; exact hm x hx) hn
      rw [this]; omega

end Go.Proofs.Ytciijaejldfcaaa
