/-
  What the law ZsetOrder comes to, of plain lists.
-/
import Derived.Test.YtciijaejldfcaaaUpd
import Derived.Test.YtciijaejldfcaaaGrpP
namespace Go.Proofs.Ytciijaejldfcaaa
open Go.RowKit

/-- A counted row in two halves. -/
def halves (x : Cnt) : List Cnt := [⟨x.v, x.l, x.n.tdiv 2⟩, ⟨x.v, x.l, x.n - x.n.tdiv 2⟩]
/-- A counted row as an update. -/
def updC (t : Int) (x : Cnt) : Up.Cnt := ⟨x.v, (t, x.l), x.n⟩
/-- What the first loop has made when m are still to come. -/
def turnedL (S : List Cnt) (m : Nat) : List Cnt := (S.drop m).reverse.flatMap halves
def downL (t : Int) (S : List Cnt) (m : Nat) : List Up.Cnt := (S.drop m).reverse.map (updC t)

theorem turned_step (S : List Cnt) (m : Nat) (h : m < S.length) : turnedL S m = turnedL S (m + 1) ++ halves S[m] := by
  unfold turnedL
  rw [List.drop_eq_getElem_cons h, List.reverse_cons, List.flatMap_append]
  simp
theorem down_step (t : Int) (S : List Cnt) (m : Nat) (h : m < S.length) : downL t S m = downL t S (m + 1) ++ [updC t S[m]] := by
  unfold downL
  rw [List.drop_eq_getElem_cons h, List.reverse_cons, List.map_append]
  rfl
theorem turned_len (S : List Cnt) (m : Nat) : (turnedL S m).length = 2 * (S.length - m) := by
  unfold turnedL
  rw [List.length_flatMap]
  have : ∀ l : List Cnt, (l.map fun a => (halves a).length).sum = 2 * l.length := by
    intro l
    induction l with
    | nil => rfl
    | cons x t ih => simp [halves] at ih ⊢; omega
  rw [this, List.length_reverse, List.length_drop]
theorem down_len (t : Int) (S : List Cnt) (m : Nat) : (downL t S m).length = S.length - m := by unfold downL; rw [List.length_map, List.length_reverse, List.length_drop]

theorem cnt_halves : ∀ (l : List Cnt) (r : List Dat), cntR (plainC (l.flatMap halves)) r = cntR (plainC l) r
  | [], r => rfl
  | x :: t, r => by
    rw [List.flatMap_cons, plainC_append, cntR_append, cnt_halves t r]
    unfold plainC
    simp only [halves, List.map_cons, List.map_nil, cntR]
    split <;> omega
theorem cnt_turned (S : List Cnt) (r : List Dat) : cntR (plainC (turnedL S 0)) r = cntR (plainC S) r := by
  unfold turnedL
  rw [List.drop_zero, cnt_halves]
  exact cntR_perm (by unfold plainC; exact (List.reverse_perm S).map _) r

theorem cnt_upd (t : Int) : ∀ (l : List Cnt) (k : Up.KeyU), Up.cntR (Up.plainC (l.map (updC t))) k = if t = k.1 then cntR (plainC l) k.2 else 0
  | [], k => by simp [Up.plainC, Up.cntR, plainC, cntR]
  | x :: s, k => by
    have ih := cnt_upd t s k
    have h1 : Up.plainC ((x :: s).map (updC t)) = ((t, x.l), x.n) :: Up.plainC (s.map (updC t)) := rfl
    have h2 : plainC (x :: s) = (x.l, x.n) :: plainC s := rfl
    rw [h1, h2, Up.cntR, cntR, ih]
    unfold Up.cmpK
    simp only
    by_cases ht : t = k.1
    · rw [if_pos ht, if_pos ht, if_pos ht]
    · rw [if_neg ht, if_neg ht, if_neg ht]
      have := ordI_cases t k.1
      rw [if_neg (by omega)]
      rfl
theorem cnt_down (t : Int) (S : List Cnt) (k : Up.KeyU) : Up.cntR (Up.plainC (downL t S 0)) k = Up.cntR (Up.plainC (S.map (updC t))) k := by
  unfold downL
  rw [List.drop_zero]
  exact Up.cntR_perm (by unfold Up.plainC; exact ((List.reverse_perm S).map _).map _) k

/-- The settled updates of one time are the tidy rows at that time. -/
theorem upd_tid {t : Int} {S : List Cnt} {T : List CRow} (h : Tid 1 (plainC S) T) : Up.Tid 1 (Up.plainC (S.map (updC t))) (T.map fun x => ((t, x.1), x.2)) := by
  refine ⟨?_, ?_, ?_⟩
  · rw [List.pairwise_map]
    refine h.asc.imp ?_
    intro a b hab
    unfold Up.cmpK
    rw [if_pos rfl]
    exact hab
  · intro x hx
    obtain ⟨y, hy, rfl⟩ := List.mem_map.mp hx
    exact h.nz y hy
  · intro k
    rw [cnt_upd, Int.one_mul]
    have h1 : ∀ l : List CRow, Up.cntR (l.map fun x => ((t, x.1), x.2)) k = if t = k.1 then cntR l k.2 else 0 := by
      intro l
      induction l with
      | nil => simp [Up.cntR, cntR]
      | cons x s ih =>
        rw [List.map_cons, Up.cntR, cntR, ih]
        unfold Up.cmpK
        simp only
        by_cases ht : t = k.1
        · rw [if_pos ht, if_pos ht, if_pos ht]
        · rw [if_neg ht, if_neg ht, if_neg ht]
          have := ordI_cases t k.1
          rw [if_neg (by omega)]
          rfl
    rw [h1]
    have := h.cnt k.2
    split <;> omega

theorem at_down (t : Int) (S : List Cnt) : Up.atC (downL t S 0) t = S.reverse := by
  unfold Up.atC downL
  rw [List.drop_zero]
  have h1 : ((S.reverse.map (updC t)).filter fun x => decide (x.l.1 ≤ t)) = S.reverse.map (updC t) := by
    rw [List.filter_eq_self]
    intro x hx
    obtain ⟨y, _, rfl⟩ := List.mem_map.mp hx
    simp [updC]
  rw [h1, List.map_map]
  have h2 : ((fun x : Up.Cnt => (⟨x.v, x.l.2, x.n⟩ : Cnt)) ∘ updC t) = id := by funext x; rfl
  rw [h2, List.map_id]
theorem at_ahead (t s : Int) (S : List Cnt) (h : s < t) : Up.atC (S.map (updC t)) s = [] := by
  unfold Up.atC
  have h1 : ((S.map (updC t)).filter fun x => decide (x.l.1 ≤ s)) = [] := by
    rw [List.filter_eq_nil_iff]
    intro x hx
    obtain ⟨y, _, rfl⟩ := List.mem_map.mp hx
    show ¬ (decide (t ≤ s) = true)
    rw [decide_eq_true_eq]
    omega
  rw [h1]; rfl
theorem at_le (C : Int) (hC : 0 ≤ C) (t s : Int) (S : List Cnt) (h : CntLe C (plainC S)) : CntLe C (plainC (Up.atC (S.map (updC t)) s)) := by
  by_cases hs : s < t
  · rw [at_ahead t s S hs]; intro r; simp [plainC, cntR]; exact hC
  · have h1 : Up.atC (S.map (updC t)) s = S := by
      unfold Up.atC
      have h1 : ((S.map (updC t)).filter fun x => decide (x.l.1 ≤ s)) = S.map (updC t) := by
        rw [List.filter_eq_self]
        intro x hx
        obtain ⟨y, _, rfl⟩ := List.mem_map.mp hx
        show decide (t ≤ s) = true
        rw [decide_eq_true_eq]
        omega
      rw [h1, List.map_map]
      have h2 : ((fun x : Up.Cnt => (⟨x.v, x.l.2, x.n⟩ : Cnt)) ∘ updC t) = id := by funext x; rfl
      rw [h2, List.map_id]
    rw [h1]; exact h

/-- The rows of updates that a list of counted rows makes. -/
theorem upd_rows {w : World} {S : List Cnt} {t : Int} (h : RowIns w S) (D : List Up.Cnt) (hD : ∀ y ∈ D, ∃ x ∈ S, y = updC t x) : Up.RowsIn w D ∧ ∀ x ∈ D, RowB x.l.2 ∧ -9223372036854775808 ≤ x.n ∧ x.n ≤ 9223372036854775807 := by
  constructor
  · intro y hy
    obtain ⟨x, hx, rfl⟩ := hD y hy
    exact h.1 x hx
  · intro y hy
    obtain ⟨x, hx, rfl⟩ := hD y hy
    exact h.2 x hx
theorem turned_rows {w : World} {S : List Cnt} (h : RowIns w S) (hs : ∀ x ∈ S, -1000000 < x.n ∧ x.n < 1000000) (m : Nat) : RowIns w (turnedL S m) := by
  have hm : ∀ y ∈ turnedL S m, ∃ x ∈ S, y ∈ halves x := by
    intro y hy
    unfold turnedL at hy
    obtain ⟨x, hx, hy⟩ := List.mem_flatMap.mp hy
    exact ⟨x, List.mem_of_mem_drop (List.mem_reverse.mp hx), hy⟩
  constructor
  · intro y hy
    obtain ⟨x, hx, hy⟩ := hm y hy
    simp [halves] at hy
    rcases hy with rfl | rfl <;> exact h.1 x hx
  · intro y hy
    obtain ⟨x, hx, hy⟩ := hm y hy
    have hn := hs x hx
    have ht : -1000000 < x.n.tdiv 2 ∧ x.n.tdiv 2 < 1000000 := by
      rcases Int.le_total 0 x.n with h0 | h0
      · rw [Int.tdiv_eq_ediv_of_nonneg h0]; omega
      · have h1 : x.n.tdiv 2 = -((-x.n).tdiv 2) := by rw [Int.neg_tdiv, Int.neg_neg]
        rw [h1, Int.tdiv_eq_ediv_of_nonneg (by omega)]; omega
    simp [halves] at hy
    rcases hy with rfl | rfl
    · exact ⟨(h.2 x hx).1, by simp only; omega, by simp only; omega⟩
    · exact ⟨(h.2 x hx).1, by simp only; omega, by simp only; omega⟩

end Go.Proofs.Ytciijaejldfcaaa
