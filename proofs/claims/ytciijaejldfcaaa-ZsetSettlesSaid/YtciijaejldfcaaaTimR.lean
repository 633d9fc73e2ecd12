/-
  What ZsetTimes wants of counts: bounds of small updates, settled, moved and between two times.
-/
import Derived.Test.YtciijaejldfcaaaTimQ
namespace Go.Proofs.Ytciijaejldfcaaa.Up
open Go.RowKit

theorem cnt_bound (B : Int) (hB : 0 ≤ B) : ∀ (P : List CRow) (r : KeyU), (∀ x ∈ P, -B ≤ x.2 ∧ x.2 ≤ B) → -(B * P.length) ≤ cntR P r ∧ cntR P r ≤ B * P.length
  | [], _, _ => by simp [cntR]
  | x :: t, r, h => by
    have h1 := cnt_bound B hB t r (fun y hy => h y (by simp [hy]))
    have h2 := h x (by simp)
    rw [cntR, List.length_cons]
    have : B * ((t.length + 1 : Nat) : Int) = B * t.length + B := by rw [Int.natCast_add, Int.mul_add]; simp
    split <;> omega

/-- Updates whose counts are small. -/
def Small (S : List Cnt) : Prop := S.length ≤ 60 ∧ ∀ x ∈ S, -1000000 ≤ x.n ∧ x.n ≤ 1000000
theorem Small.fit {S : List Cnt} (h : Small S) : ∀ k, fitsB (1 * cntR (plainC S) k) = true := by
  intro k
  have h1 := cnt_bound 1000000 (by decide) (plainC S) k (by
    intro x hx
    unfold plainC at hx
    obtain ⟨y, hy, rfl⟩ := List.mem_map.mp hx
    exact h.2 y hy)
  have h2 : (plainC S).length = S.length := by unfold plainC; rw [List.length_map]
  have h3 := h.1
  rw [h2] at h1
  unfold fitsB
  rw [decide_eq_true_eq]
  omega
theorem Small.map {S : List Cnt} (h : Small S) : Small (S.map smallU) := by
  refine ⟨by rw [List.length_map]; exact h.1, ?_⟩
  intro x hx
  obtain ⟨y, _, rfl⟩ := List.mem_map.mp hx
  have := tmod_small y.n
  constructor <;> simp only [smallU] <;> omega
theorem small_of (M : List Cnt) (h : M.length ≤ 60) : Small (M.map smallU) := by
  refine ⟨by rw [List.length_map]; exact h, ?_⟩
  intro x hx
  obtain ⟨y, _, rfl⟩ := List.mem_map.mp hx
  have := tmod_small y.n
  constructor <;> simp only [smallU] <;> omega
theorem Small.later {S : List Cnt} (h : Small S) (s : Int) : Small (S.map (laterU s)) := by
  refine ⟨by rw [List.length_map]; exact h.1, ?_⟩
  intro x hx
  obtain ⟨y, hy, rfl⟩ := List.mem_map.mp hx
  exact h.2 y hy
theorem small_le {K : List Ytciijaejldfcaaa.Cnt} (h1 : K.length ≤ 60) (h2 : ∀ x ∈ K, -1000000 ≤ x.n ∧ x.n ≤ 1000000) : CntLe 60000000 (Ytciijaejldfcaaa.plainC K) := by
  intro r
  have h := Ytciijaejldfcaaa.cnt_bound 1000000 (by decide) (Ytciijaejldfcaaa.plainC K) r (by
    intro x hx
    unfold Ytciijaejldfcaaa.plainC at hx
    obtain ⟨y, hy, rfl⟩ := List.mem_map.mp hx
    exact h2 y hy)
  have h3 : (Ytciijaejldfcaaa.plainC K).length = K.length := by unfold Ytciijaejldfcaaa.plainC; rw [List.length_map]
  rw [h3] at h
  omega
theorem Small.at {S : List Cnt} (h : Small S) (t : Int) : CntLe 60000000 (Ytciijaejldfcaaa.plainC (atC S t)) := by
  refine small_le (Nat.le_trans (atC_len _ _) h.1) ?_
  intro x hx
  obtain ⟨y, hy, _, _, e⟩ := atC_mem hx
  rw [e]; exact h.2 y hy
theorem Small.betw {S : List Cnt} (h : Small S) (s t : Int) : CntLe 60000000 (Ytciijaejldfcaaa.plainC ((betw s t S).map toC)) := by
  refine small_le (by rw [List.length_map]; exact Nat.le_trans (List.length_filter_le _ _) h.1) ?_
  intro x hx
  obtain ⟨y, hy, rfl⟩ := List.mem_map.mp hx
  exact h.2 y (List.mem_filter.mp hy).1

/-- What is there at a time of what was settled. -/
theorem at_tid {P : List Cnt} {K : List Cnt} (h : Tid 1 (plainC P) (plainC K)) (t : Int) (r : List Dat) : Ytciijaejldfcaaa.cntR (Ytciijaejldfcaaa.plainC (atC K t)) r = Ytciijaejldfcaaa.cntR (Ytciijaejldfcaaa.plainC (atC P t)) r :=
  at_same (fun k => by rw [h.cnt, Int.one_mul]) t r
theorem CntLe.same {C : Int} {P Q : List Ytciijaejldfcaaa.CRow} (h : CntLe C P) (e : ∀ r, Ytciijaejldfcaaa.cntR Q r = Ytciijaejldfcaaa.cntR P r) : CntLe C Q := fun r => by rw [e]; exact h r

/-- Updates with what is asked of them, in a world. -/
def UpRows (w : World) (K : List Cnt) : Prop := RowsIn w K ∧ ∀ x ∈ K, RowB x.l.2 ∧ -9223372036854775808 ≤ x.n ∧ x.n ≤ 9223372036854775807
theorem upRows_small {w : World} {M : List Cnt} (hr : RowsIn w M) (hB : ∀ x ∈ M, RowB x.l.2) : UpRows w (M.map smallU) := by
  refine ⟨?_, ?_⟩
  · intro x hx
    obtain ⟨y, hy, rfl⟩ := List.mem_map.mp hx
    exact hr y hy
  · intro x hx
    obtain ⟨y, hy, rfl⟩ := List.mem_map.mp hx
    have := tmod_small y.n
    exact ⟨hB y hy, by simp only [smallU]; omega, by simp only [smallU]; omega⟩
theorem upRows_toC {w : World} {K : List Cnt} (s t : Int) (h : UpRows w K) : Ytciijaejldfcaaa.RowIns w ((betw s t K).map toC) := by
  refine ⟨?_, ?_⟩
  · intro x hx
    obtain ⟨y, hy, rfl⟩ := List.mem_map.mp hx
    exact h.1 y (List.mem_filter.mp hy).1
  · intro x hx
    obtain ⟨y, hy, rfl⟩ := List.mem_map.mp hx
    exact h.2 y (List.mem_filter.mp hy).1
theorem later_times {sg s : Int} {S K : List Cnt} (h : Tid sg (plainC (S.map (laterU s))) (plainC K)) (i : Nat) (hi : i < K.length) : s ≤ K[i].l.1 := by
  obtain ⟨y, hy, e⟩ := tid_rows h (K[i].l, K[i].n) (List.mem_map.mpr ⟨K[i], List.getElem_mem hi, rfl⟩)
  unfold plainC at hy
  obtain ⟨z, hz, rfl⟩ := List.mem_map.mp hy
  obtain ⟨q, _, rfl⟩ := List.mem_map.mp hz
  have e' : (laterU s q).l = K[i].l := e
  rw [← e']
  show s ≤ max q.l.1 s
  omega
theorem plain_rows {K : List Cnt} (h : ∀ x ∈ K, RowB x.l.2) : ∀ y ∈ plainC K, RowB y.1.2 := by
  intro y hy
  unfold plainC at hy
  obtain ⟨z, hz, rfl⟩ := List.mem_map.mp hy
  exact h z hz
theorem plain_at {K : List Cnt} (h : ∀ x ∈ K, RowB x.l.2) (t : Int) : ∀ y ∈ Ytciijaejldfcaaa.plainC (atC K t), RowB y.1 := by
  intro y hy
  unfold Ytciijaejldfcaaa.plainC at hy
  obtain ⟨z, hz, rfl⟩ := List.mem_map.mp hy
  obtain ⟨q, hq, _, e, _⟩ := atC_mem hz
  show RowB z.l
  rw [e]; exact h q hq

end Go.Proofs.Ytciijaejldfcaaa.Up
namespace Go.Proofs.Ytciijaejldfcaaa
open Go.RowKit

theorem tid_rowIns {sg : Int} {P : List CRow} {K : List Cnt} {w : World} {base : Nat} (ht : Tid sg P (plainC K)) (hf : FreshIn w base K) (hP : ∀ y ∈ P, RowB y.1) : RowIns w K := by
  have hB : ∀ x ∈ K, RowB x.l := by
    intro x hx
    obtain ⟨y, hy, e⟩ := tid_rows ht (x.l, x.n) (List.mem_map.mpr ⟨x, hx, rfl⟩)
    have : y.1 = x.l := e
    rw [← this]; exact hP y hy
  refine ⟨?_, ?_⟩
  · intro x hx
    refine (hf x hx).row ?_
    have := (hB x hx).1
    unfold maxLen; omega
  · intro x hx
    have h2 := (ht.nz (x.l, x.n) (List.mem_map.mpr ⟨x, hx, rfl⟩)).2
    unfold fitsB at h2
    rw [decide_eq_true_eq] at h2
    exact ⟨hB x hx, h2⟩

end Go.Proofs.Ytciijaejldfcaaa
