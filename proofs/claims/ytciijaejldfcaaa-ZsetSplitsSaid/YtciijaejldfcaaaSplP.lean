/-
  What the law ZsetSplits comes to, of plain lists.
-/
import Derived.Test.YtciijaejldfcaaaPos
namespace Go.Proofs.Ytciijaejldfcaaa
open Go.RowKit

theorem plain_filter (K : List Cnt) : plainC (K.filter posC) = (plainC K).filter fun x => decide (0 < x.2) := by
  unfold plainC
  rw [List.filter_map]
  rfl

theorem asc_filter : ∀ (T : List CRow), (T.Pairwise fun x y => cmpR x.1 y.1 < 0) → ∀ r, cntR (T.filter fun x => decide (0 < x.2)) r = if 0 < cntR T r then cntR T r else 0
  | [], _, r => by simp [cntR]
  | x :: t, h, r => by
    rw [List.pairwise_cons] at h
    have ih := asc_filter t h.2 r
    by_cases hx : cmpR x.1 r = 0
    · have hr := cmpR_eq _ _ hx
      have ht : cntR t r = 0 := cntR_none t r (fun y hy => by rw [← hr]; exact cmpR_lt_ne (h.1 y hy))
      rw [ht] at ih
      simp only [Int.lt_irrefl, if_false] at ih
      by_cases hp : 0 < x.2
      · rw [List.filter_cons_of_pos (by simpa using hp), cntR, cntR, if_pos hx, ih, ht, if_pos (by omega)]
      · rw [List.filter_cons_of_neg (by simpa using hp), cntR, if_pos hx, ih, ht, if_neg (by omega)]
    · by_cases hp : 0 < x.2
      · rw [List.filter_cons_of_pos (by simpa using hp), cntR, cntR, if_neg hx, ih, Int.zero_add, Int.zero_add]
      · rw [List.filter_cons_of_neg (by simpa using hp), cntR, if_neg hx, ih, Int.zero_add]

theorem pos_cnt {P : List CRow} {K : List Cnt} (h : Tid 1 P (plainC K)) (r : List Dat) : cntR (plainC (K.filter posC)) r = if 0 < cntR P r then cntR P r else 0 := by
  rw [plain_filter, asc_filter _ h.asc, h.cnt, Int.one_mul]

theorem pos_le {P : List CRow} {K : List Cnt} {C : Int} (hC : CntLe C P) (h : Tid 1 P (plainC K)) (h0 : 0 ≤ C) : CntLe C (plainC (K.filter posC)) := by
  intro r
  have := hC r
  rw [pos_cnt h]
  split <;> omega

/-- What Positive told can go in again. -/
theorem pos_ins {P : List CRow} {K : List Cnt} {w : World} {base : Nat} {v : Value} (ht : Tid 1 P (plainC K)) (ho : OwnC w base v (K.filter posC)) (hf : FreshIn w base (K.filter posC)) (hP : ∀ y ∈ P, RowB y.1) (hl : K.length ≤ 1000000) : CntIns w v (K.filter posC) := by
  have hB : ∀ x ∈ K, RowB x.l ∧ -9223372036854775808 ≤ x.n ∧ x.n ≤ 9223372036854775807 := by
    intro x hx
    have hm : (x.l, x.n) ∈ plainC K := List.mem_map.mpr ⟨x, hx, rfl⟩
    obtain ⟨y, hy, e⟩ := tid_rows ht (x.l, x.n) hm
    have e : y.1 = x.l := e
    have h2 := (ht.nz (x.l, x.n) hm).2
    unfold fitsB at h2
    rw [decide_eq_true_eq] at h2
    exact ⟨by rw [← e]; exact hP y hy, h2⟩
  refine ⟨ho.val hkC, ?_, fun x hx => hB x (List.mem_filter.mp hx).1, Nat.le_trans (List.length_filter_le _ _) hl⟩
  intro x hx
  refine (hf x hx).row ?_
  have := (hB x (List.mem_filter.mp hx).1).1.1
  unfold maxLen; omega

/-- What Distinct told can go in again. -/
theorem dis_ins {P : List CRow} {K : List Cnt} {w : World} {base : Nat} {v : Value} (ht : Tid 1 P (plainC K)) (ho : OwnC w base v ((K.filter posC).map oneC)) (hf : FreshIn w base ((K.filter posC).map oneC)) (hP : ∀ y ∈ P, RowB y.1) (hl : K.length ≤ 1000000) : CntIns w v ((K.filter posC).map oneC) := by
  have hB : ∀ x ∈ K, RowB x.l := by
    intro x hx
    obtain ⟨y, hy, e⟩ := tid_rows ht (x.l, x.n) (List.mem_map.mpr ⟨x, hx, rfl⟩)
    have e : y.1 = x.l := e
    rw [← e]; exact hP y hy
  have hm : ∀ x ∈ (K.filter posC).map oneC, RowB x.l ∧ x.n = 1 := by
    intro x hx
    obtain ⟨y, hy, rfl⟩ := List.mem_map.mp hx
    exact ⟨hB y (List.mem_filter.mp hy).1, rfl⟩
  refine ⟨ho.val hkC, ?_, fun x hx => ⟨(hm x hx).1, by rw [(hm x hx).2]; decide, by rw [(hm x hx).2]; decide⟩, by rw [List.length_map]; exact Nat.le_trans (List.length_filter_le _ _) hl⟩
  intro x hx
  refine (hf x hx).row ?_
  have := (hm x hx).1.1
  unfold maxLen; omega

theorem cnt_at {w : World} {A : Option Addr} {c : Nat} {K : List Cnt} (h : CntV w (.slice A K.length c) K) : K = [] ∨ ∃ b off, A = some ⟨b, off, none⟩ ∧ b < w.heap.size ∧ AtG encC 2 w b off K := by
  rcases h with ⟨_, h⟩ | ⟨b, off, cap, h, _, hb, hat, _⟩
  · exact .inl h
  · injection h with h1 h2 h3
    exact .inr ⟨b, off, h1, hb, hat⟩

theorem pos_rows {P : List CRow} {K : List Cnt} (ht : Tid 1 P (plainC K)) (hP : ∀ y ∈ P, RowB y.1) : ∀ y ∈ plainC (K.filter posC), RowB y.1 := by
  intro y hy
  unfold plainC at hy
  obtain ⟨x, hx, rfl⟩ := List.mem_map.mp hy
  obtain ⟨z, hz, e⟩ := tid_rows ht (x.l, x.n) (List.mem_map.mpr ⟨x, (List.mem_filter.mp hx).1, rfl⟩)
  have e : z.1 = x.l := e
  rw [← e]; exact hP z hz

end Go.Proofs.Ytciijaejldfcaaa
