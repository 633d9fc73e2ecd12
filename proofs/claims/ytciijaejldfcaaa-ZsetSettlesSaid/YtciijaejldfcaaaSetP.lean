/-
  The reference's Settle, of plain lists: the times, rising, each once, and the tidy rows of each time, one behind the other.
-/
import Derived.Test.YtciijaejldfcaaaRefE
import Derived.Test.YtciijaejldfcaaaTimR
namespace Go.Proofs.Ytciijaejldfcaaa.Up
open Go.RowKit

/-- A time put into a list of times, and whether it has been. -/
def tmGo (x : Int) (s : Bool × List Int) (r : Int) : Bool × List Int :=
  if s.1 = false ∧ x ≤ r then (true, if x < r then s.2 ++ [x, r] else s.2 ++ [r]) else (s.1, s.2 ++ [r])
def tmAll (x : Int) (L : List Int) : Bool × List Int := L.foldl (tmGo x) (false, [])
def tmR (x : Int) (L : List Int) : List Int := if (tmAll x L).1 then (tmAll x L).2 else (tmAll x L).2 ++ [x]
theorem tmAll_take (x : Int) (L : List Int) (k : Nat) (h : k < L.length) : tmAll x (L.take (k + 1)) = tmGo x (tmAll x (L.take k)) L[k] := by
  unfold tmAll
  rw [List.take_succ_eq_append_getElem h, List.foldl_append]; rfl
theorem tmGo_len (x : Int) (s : Bool × List Int) (r : Int) (k : Nat) (h : s.2.length ≤ k + (if s.1 then 1 else 0)) : (tmGo x s r).2.length ≤ k + 1 + (if (tmGo x s r).1 then 1 else 0) := by
  unfold tmGo
  split
  · rename_i hc
    rw [hc.1] at h
    dsimp only
    split <;> simp at h ⊢ <;> omega
  · simp at h ⊢; omega
theorem tmAll_len (x : Int) (L : List Int) : ∀ k, k ≤ L.length → (tmAll x (L.take k)).2.length ≤ k + (if (tmAll x (L.take k)).1 then 1 else 0)
  | 0, _ => by simp [tmAll]
  | k + 1, h => by
    rw [tmAll_take x L k (by omega)]
    exact tmGo_len x _ _ k (tmAll_len x L k (by omega))
def RiseI (L : List Int) : Prop := L.Pairwise fun a b => a < b
structure TmInv (x : Int) (L : List Int) (s : Bool × List Int) : Prop where
  rise : RiseI s.2
  mem : ∀ r, r ∈ s.2 ↔ (r ∈ L ∨ (s.1 = true ∧ x = r))
  ahead : s.1 = false → ∀ y ∈ L, y < x
  far : s.1 = true → ∃ y ∈ L, x ≤ y

theorem tmInv_go {x r : Int} {L : List Int} {s : Bool × List Int} (h : TmInv x L s) (hL : RiseI (L ++ [r])) : TmInv x (L ++ [r]) (tmGo x s r) := by
  have hlast : ∀ y ∈ L, y < r := fun y hy => (List.pairwise_append.mp hL).2.2 y hy r (by simp)
  by_cases hc : s.1 = false ∧ x ≤ r
  · have hah := h.ahead hc.1
    have hs2 : ∀ y ∈ s.2, y ∈ L := fun y hy => by
      rcases (h.mem y).mp hy with q | ⟨e, _⟩
      · exact q
      · rw [hc.1] at e; cases e
    have hm : ∀ q, q ∈ s.2 ↔ q ∈ L := fun q => ⟨hs2 q, fun hq => (h.mem q).mpr (.inl hq)⟩
    unfold tmGo
    rw [if_pos hc]
    by_cases hlt : x < r
    · rw [if_pos hlt]
      refine ⟨?_, ?_, fun e => by simp at e, fun _ => ⟨r, by simp, by omega⟩⟩
      · unfold RiseI
        rw [List.pairwise_append]
        refine ⟨h.rise, by simpa using hlt, ?_⟩
        intro a ha b hb
        simp only [List.mem_cons, List.not_mem_nil, or_false] at hb
        rcases hb with rfl | rfl
        · exact hah a (hs2 a ha)
        · exact hlast a (hs2 a ha)
      · intro q
        simp only [List.mem_append, List.mem_cons, List.not_mem_nil, or_false, hm, true_and]
        constructor
        · rintro (a | rfl | rfl)
          · exact .inl (.inl a)
          · exact .inr rfl
          · exact .inl (.inr rfl)
        · rintro ((a | rfl) | rfl)
          · exact .inl a
          · exact .inr (.inr rfl)
          · exact .inr (.inl rfl)
    · rw [if_neg hlt]
      have he : x = r := by omega
      subst he
      refine ⟨?_, ?_, fun e => by simp at e, fun _ => ⟨x, by simp, by omega⟩⟩
      · unfold RiseI
        rw [List.pairwise_append]
        refine ⟨h.rise, by simp, ?_⟩
        intro a ha b hb
        simp only [List.mem_singleton] at hb
        subst hb
        exact hlast a (hs2 a ha)
      · intro q
        simp only [List.mem_append, List.mem_singleton, hm, true_and]
        constructor
        · rintro (a | rfl)
          · exact .inl (.inl a)
          · exact .inr rfl
        · rintro ((a | rfl) | rfl)
          · exact .inl a
          · exact .inr rfl
          · exact .inr rfl
  · unfold tmGo
    rw [if_neg hc]
    refine ⟨?_, ?_, ?_, ?_⟩
    · unfold RiseI
      rw [List.pairwise_append]
      refine ⟨h.rise, by simp, ?_⟩
      intro a ha b hb
      simp only [List.mem_singleton] at hb
      subst hb
      rcases (h.mem a).mp ha with q | ⟨ht, e⟩
      · exact hlast a q
      · obtain ⟨y, hy, hxy⟩ := h.far ht
        have := hlast y hy
        omega
    · intro q
      simp only [List.mem_append, List.mem_singleton, h.mem]
      constructor
      · rintro ((a | a) | a)
        · exact .inl (.inl a)
        · exact .inr a
        · exact .inl (.inr a)
      · rintro ((a | a) | a)
        · exact .inl (.inl a)
        · exact .inr a
        · exact .inl (.inr a)
    · intro hf y hy
      rcases List.mem_append.mp hy with hy | hy
      · exact h.ahead hf y hy
      · simp only [List.mem_singleton] at hy
        subst hy
        have h1 : ¬ x ≤ y := fun q => hc ⟨hf, q⟩
        omega
    · intro ht
      obtain ⟨y, hy, e⟩ := h.far ht
      exact ⟨y, by simp [hy], e⟩
theorem tmInv_all (x : Int) (L : List Int) (hL : RiseI L) : ∀ k, k ≤ L.length → TmInv x (L.take k) (tmAll x (L.take k))
  | 0, _ => ⟨by simp [tmAll, RiseI], by intro r; simp [tmAll], by simp, by simp [tmAll]⟩
  | k + 1, h => by
    have ih := tmInv_all x L hL k (by omega)
    rw [tmAll_take x L k (by omega)]
    have e := List.take_succ_eq_append_getElem (l := L) (i := k) (by omega)
    rw [e]
    refine tmInv_go ih ?_
    rw [← e]
    exact List.Pairwise.sublist (List.take_sublist _ _) hL
theorem tmR_rise (x : Int) (L : List Int) (hL : RiseI L) : RiseI (tmR x L) ∧ ∀ r, r ∈ tmR x L ↔ (r ∈ L ∨ x = r) := by
  have h := tmInv_all x L hL L.length (Nat.le_refl _)
  rw [List.take_length] at h
  unfold tmR
  by_cases ht : (tmAll x L).1 = true
  · rw [if_pos ht]
    refine ⟨h.rise, fun r => ?_⟩
    rw [h.mem r]
    constructor
    · rintro (q | q)
      · exact .inl q
      · exact .inr q.2
    · rintro (q | q)
      · exact .inl q
      · exact .inr ⟨ht, q⟩
  · have hf : (tmAll x L).1 = false := by simpa using ht
    rw [if_neg ht]
    have hah := h.ahead hf
    have hm : ∀ r, r ∈ (tmAll x L).2 ↔ r ∈ L := fun r => by
      rw [h.mem r, hf]
      simp
    refine ⟨?_, fun r => ?_⟩
    · unfold RiseI
      rw [List.pairwise_append]
      refine ⟨h.rise, by simp, ?_⟩
      intro a ha b hb
      simp only [List.mem_singleton] at hb
      subst hb
      exact hah a ((hm a).mp ha)
    · simp only [List.mem_append, List.mem_singleton, hm]
      exact ⟨fun q => q.imp id (fun e => e.symm), fun q => q.imp id (fun e => e.symm)⟩
theorem tmR_len (x : Int) (L : List Int) : (tmR x L).length ≤ L.length + 1 := by
  have h := tmAll_len x L L.length (Nat.le_refl _)
  rw [List.take_length] at h
  unfold tmR
  by_cases ht : (tmAll x L).1 = true
  · rw [if_pos ht]
    rw [if_pos ht] at h
    exact h
  · rw [if_neg ht]
    rw [if_neg ht] at h
    simp; omega

/-- The times of updates, rising, each once. -/
def timesR (L : List Cnt) : List Int := L.foldl (fun s c => tmR c.l.1 s) []
theorem timesR_take (L : List Cnt) (k : Nat) (h : k < L.length) : timesR (L.take (k + 1)) = tmR L[k].l.1 (timesR (L.take k)) := by
  unfold timesR
  rw [List.take_succ_eq_append_getElem h, List.foldl_append]; rfl
theorem timesR_inv (L : List Cnt) : ∀ k, k ≤ L.length → RiseI (timesR (L.take k)) ∧ (timesR (L.take k)).length ≤ k ∧ ∀ r, r ∈ timesR (L.take k) ↔ ∃ y ∈ L.take k, y.l.1 = r
  | 0, _ => ⟨by simp [timesR, RiseI], by simp [timesR], by simp [timesR]⟩
  | k + 1, h => by
    obtain ⟨h1, h2, h3⟩ := timesR_inv L k (by omega)
    rw [timesR_take L k (by omega)]
    obtain ⟨g1, g2⟩ := tmR_rise L[k].l.1 _ h1
    refine ⟨g1, by have := tmR_len L[k].l.1 (timesR (L.take k)); omega, fun r => ?_⟩
    have et := List.take_succ_eq_append_getElem (show k < L.length by omega)
    rw [g2, h3, et]
    constructor
    · rintro (⟨y, hy, e⟩ | e)
      · exact ⟨y, List.mem_append_left _ hy, e⟩
      · exact ⟨L[k], List.mem_append_right _ (by simp), e⟩
    · rintro ⟨y, hy, e⟩
      rcases List.mem_append.mp hy with hy | hy
      · exact .inl ⟨y, hy, e⟩
      · simp only [List.mem_singleton] at hy
        subst hy
        exact .inr e

/-- The rows of one time. -/
def eqC (L : List Cnt) (t : Int) : List Ytciijaejldfcaaa.Cnt := (L.filter fun x => decide (x.l.1 = t)).map toC
theorem eqC_take (L : List Cnt) (t : Int) (k : Nat) (h : k < L.length) : eqC (L.take (k + 1)) t = if L[k].l.1 = t then eqC (L.take k) t ++ [toC L[k]] else eqC (L.take k) t := by
  unfold eqC
  rw [List.take_succ_eq_append_getElem h, List.filter_append]
  by_cases ht : L[k].l.1 = t
  · rw [if_pos ht, List.filter_cons_of_pos (by simpa using ht), List.filter_nil, List.map_append]; rfl
  · rw [if_neg ht, List.filter_cons_of_neg (by simpa using ht), List.filter_nil, List.append_nil]
theorem eqC_len (L : List Cnt) (t : Int) : (eqC L t).length ≤ L.length := by unfold eqC; rw [List.length_map]; exact List.length_filter_le _ _
theorem eqC_mem {L : List Cnt} {t : Int} {x : Ytciijaejldfcaaa.Cnt} (h : x ∈ eqC L t) : ∃ y ∈ L, x = toC y := by
  unfold eqC at h
  obtain ⟨y, hy, rfl⟩ := List.mem_map.mp h
  exact ⟨y, (List.mem_filter.mp hy).1, rfl⟩
theorem eqC_cnt (k : KeyU) : ∀ L : List Cnt, Ytciijaejldfcaaa.cntR (Ytciijaejldfcaaa.plainC (eqC L k.1)) k.2 = cntR (plainC L) k
  | [] => rfl
  | x :: l => by
    have ih := eqC_cnt k l
    have e : eqC (x :: l) k.1 = if x.l.1 = k.1 then toC x :: eqC l k.1 else eqC l k.1 := by
      unfold eqC
      by_cases h : x.l.1 = k.1
      · rw [if_pos h, List.filter_cons_of_pos (by simpa using h)]; rfl
      · rw [if_neg h, List.filter_cons_of_neg (by simpa using h)]
    have e2 : cntR (plainC (x :: l)) k = (if cmpK x.l k = 0 then x.n else 0) + cntR (plainC l) k := rfl
    rw [e, e2, ← ih]
    unfold cmpK
    by_cases h : x.l.1 = k.1
    · rw [if_pos h, if_pos h]; rfl
    · rw [if_neg h, if_neg h]
      have := ordI_cases x.l.1 k.1
      rw [if_neg (by omega)]; omega

/-- Counted rows as updates of a time. -/
def upT (t : Int) (T : List Ytciijaejldfcaaa.CRow) : List CRow := T.map fun x => ((t, x.1), x.2)
theorem upT_cnt (t : Int) (k : KeyU) : ∀ T : List Ytciijaejldfcaaa.CRow, cntR (upT t T) k = if t = k.1 then Ytciijaejldfcaaa.cntR T k.2 else 0
  | [] => by simp [upT, cntR, Ytciijaejldfcaaa.cntR]
  | x :: s => by
    have ih := upT_cnt t k s
    have e : cntR (upT t (x :: s)) k = (if cmpK (t, x.1) k = 0 then x.2 else 0) + cntR (upT t s) k := rfl
    rw [e, ih, Ytciijaejldfcaaa.cntR]
    unfold cmpK
    simp only
    by_cases h : t = k.1
    · rw [if_pos h, if_pos h, if_pos h]
    · rw [if_neg h, if_neg h, if_neg h]
      have := ordI_cases t k.1
      rw [if_neg (by omega)]; rfl

/-- What has been told behind some of the times. -/
structure SetInv (P : List CRow) (R : List Int) (T : List CRow) : Prop where
  asc : T.Pairwise fun x y => cmpK x.1 y.1 < 0
  nz : ∀ x ∈ T, x.2 ≠ 0 ∧ fitsB x.2 = true
  at' : ∀ x ∈ T, x.1.1 ∈ R
  cnt : ∀ k : KeyU, cntR T k = if k.1 ∈ R then cntR P k else 0
theorem SetInv.nil (P : List CRow) : SetInv P [] [] := ⟨List.Pairwise.nil, by simp, by simp, by simp [cntR]⟩
theorem SetInv.step {P : List CRow} {R : List Int} {T : List CRow} {t : Int} {D : List Ytciijaejldfcaaa.CRow} {Q : List Ytciijaejldfcaaa.CRow} (h : SetInv P R T) (hR : ∀ s ∈ R, s < t) (hD : Ytciijaejldfcaaa.Tid 1 Q D) (hQ : ∀ r, Ytciijaejldfcaaa.cntR Q r = cntR P (t, r)) : SetInv P (R ++ [t]) (T ++ upT t D) := by
  refine ⟨?_, ?_, ?_, ?_⟩
  · rw [List.pairwise_append]
    refine ⟨h.asc, ?_, ?_⟩
    · unfold upT
      rw [List.pairwise_map]
      refine hD.asc.imp ?_
      intro a b hab
      unfold cmpK
      rw [if_pos rfl]
      exact hab
    · intro a ha b hb
      unfold upT at hb
      obtain ⟨y, _, rfl⟩ := List.mem_map.mp hb
      have h1 := hR _ (h.at' a ha)
      unfold cmpK
      rw [if_neg (by simp only; omega)]
      unfold ordI
      simp only
      rw [if_pos h1]; decide
  · intro x hx
    rcases List.mem_append.mp hx with hx | hx
    · exact h.nz x hx
    · unfold upT at hx
      obtain ⟨y, hy, rfl⟩ := List.mem_map.mp hx
      exact hD.nz y hy
  · intro x hx
    rcases List.mem_append.mp hx with hx | hx
    · exact List.mem_append_left _ (h.at' x hx)
    · unfold upT at hx
      obtain ⟨y, _, rfl⟩ := List.mem_map.mp hx
      exact List.mem_append_right _ (by simp)
  · intro k
    rw [cntR_append, h.cnt, upT_cnt, hD.cnt, Int.one_mul, hQ]
    by_cases hk : t = k.1
    · have hn : ¬ k.1 ∈ R := fun hm => by have := hR _ hm; omega
      rw [if_neg hn, if_pos hk, if_pos (by simp [hk])]
      subst hk
      show 0 + cntR P k = cntR P k
      omega
    · rw [if_neg hk]
      have e : (k.1 ∈ R ++ [t]) ↔ k.1 ∈ R := by
        rw [List.mem_append, List.mem_singleton]
        exact ⟨fun q => q.resolve_right (fun e => hk e.symm), .inl⟩
      by_cases hm : k.1 ∈ R
      · rw [if_pos hm, if_pos (e.mpr hm)]; omega
      · rw [if_neg hm, if_neg (fun q => hm (e.mp q))]; rfl
theorem SetInv.tid {P : List CRow} {R : List Int} {T : List CRow} (h : SetInv P R T) (hm : ∀ x ∈ P, x.1.1 ∈ R) : Tid 1 P T := by
  refine ⟨h.asc, h.nz, fun k => ?_⟩
  rw [h.cnt, Int.one_mul]
  split
  · rfl
  · rename_i hn
    rcases Int.lt_trichotomy (cntR P k) 0 with q | q | q
    · obtain ⟨x, hx, e⟩ := cntR_some P k (by omega)
      exact absurd (by have h1 := cmpK_eq _ _ e; rw [← h1]; exact hm x hx) hn
    · exact q.symm
    · obtain ⟨x, hx, e⟩ := cntR_some P k (by omega)
      exact absurd (by have h1 := cmpK_eq _ _ e; rw [← h1]; exact hm x hx) hn

end Go.Proofs.Ytciijaejldfcaaa.Up
