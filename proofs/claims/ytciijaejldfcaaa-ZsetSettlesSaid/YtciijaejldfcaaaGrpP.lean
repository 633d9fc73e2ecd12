/-
  What the law ZsetGroup comes to, of plain lists.
-/
import Derived.Test.YtciijaejldfcaaaLawQ
namespace Go.Proofs.Ytciijaejldfcaaa
open Go.RowKit

theorem cnt_bound (B : Int) (hB : 0 ≤ B) : ∀ (P : List CRow) (r : List Dat), (∀ x ∈ P, -B ≤ x.2 ∧ x.2 ≤ B) → -(B * P.length) ≤ cntR P r ∧ cntR P r ≤ B * P.length
  | [], _, _ => by simp [cntR]
  | x :: t, r, h => by
    have h1 := cnt_bound B hB t r (fun y hy => h y (by simp [hy]))
    have h2 := h x (by simp)
    rw [cntR, List.length_cons]
    have : B * ((t.length + 1 : Nat) : Int) = B * t.length + B := by rw [Int.natCast_add, Int.mul_add]; simp
    split <;> omega

/-- All counts of each row together are below C. -/
def CntLe (C : Int) (P : List CRow) : Prop := ∀ r, -C ≤ cntR P r ∧ cntR P r ≤ C
theorem CntLe.fit {C : Int} {P : List CRow} (h : CntLe C P) (hC : C ≤ 1000000000000) : (∀ r, fitsB (1 * cntR P r) = true) ∧ (∀ r, fitsB (-1 * cntR P r) = true) := by
  constructor <;> intro r <;> have := h r <;> unfold fitsB <;> rw [decide_eq_true_eq] <;> omega
theorem CntLe.tid {C : Int} {P T : List CRow} {sg : Int} (h : CntLe C P) (hs : sg = 1 ∨ sg = -1) (ht : Tid sg P T) : CntLe C T := by
  intro r
  have := h r
  rw [ht.cnt]
  rcases hs with rfl | rfl <;> omega
theorem CntLe.app {C D : Int} {P Q : List CRow} (h : CntLe C P) (k : CntLe D Q) : CntLe (C + D) (P ++ Q) := by
  intro r
  have := h r
  have := k r
  rw [cntR_append]
  omega

/-- The counts cut to less than a million, of the first 60. -/
def smalls (X : List Cnt) : List Cnt := (X.take 60).map smallC
theorem smalls_len (X : List Cnt) : (smalls X).length ≤ 60 := by unfold smalls; rw [List.length_map, List.length_take]; omega
theorem smalls_le (X : List Cnt) : CntLe 60000000 (plainC (smalls X)) := by
  intro r
  have h := cnt_bound 1000000 (by decide) (plainC (smalls X)) r (by
    intro x hx
    unfold plainC smalls at hx
    obtain ⟨y, hy, rfl⟩ := List.mem_map.mp hx
    obtain ⟨z, hz, rfl⟩ := List.mem_map.mp hy
    have := tmod_small z.n
    constructor <;> simp only [smallC] <;> omega)
  have h2 := smalls_len X
  have h3 : (plainC (smalls X)).length = (smalls X).length := by unfold plainC; rw [List.length_map]
  rw [h3] at h
  omega
theorem smalls_mem {X : List Cnt} {y : Cnt} (h : y ∈ smalls X) : ∃ x ∈ X, y.v = x.v ∧ y.l = x.l ∧ -9223372036854775808 ≤ y.n ∧ y.n ≤ 9223372036854775807 := by
  unfold smalls at h
  obtain ⟨z, hz, rfl⟩ := List.mem_map.mp h
  have := tmod_small z.n
  exact ⟨z, List.mem_of_mem_take hz, rfl, rfl, by simp only [smallC]; omega, by simp only [smallC]; omega⟩

/-- small: a list that can be added up comes back. -/
def SmallPost (X : List Cnt) (w : World) (e : Ending) (w' : World) : Prop := ∃ v', e = .returned v' ∧ OwnC w' w.heap.size v' (smalls X) ∧ CntIns w' v' (smalls X) ∧ Below w.heap.size w w'
theorem small_ins (v : Value) (X : List Cnt) (w : World) (hv : CntV w v X) (hr : RowsIn w X) (hB : ∀ x ∈ X, RowB x.l) : Calls Try.prog 28 #[v] w (SmallPost X w) := by
  refine (small_any v X w hv hr).mono ?_
  rintro e w' ⟨v', rfl, ho, hb⟩
  refine ⟨v', rfl, ho, ⟨ho.val hkC, ?_, ?_, by have := smalls_len X; omega⟩, hb⟩
  · intro y hy
    obtain ⟨x, hx, e1, e2, _⟩ := smalls_mem hy
    rw [e1, e2]
    exact (hr x hx).below hb
  · intro y hy
    obtain ⟨x, hx, e1, e2, e3⟩ := smalls_mem hy
    rw [e2]
    exact ⟨hB x hx, e3⟩

/-- Rows that read, and have room. -/
def RowIns (w : World) (K : List Cnt) : Prop := RowsIn w K ∧ ∀ x ∈ K, RowB x.l ∧ -9223372036854775808 ≤ x.n ∧ x.n ≤ 9223372036854775807
theorem CntIns.rows {w : World} {v : Value} {K : List Cnt} (h : CntIns w v K) : RowIns w K := ⟨h.2.1, h.2.2.1⟩
theorem rowIns_small {w : World} {X : List Cnt} (hr : RowsIn w X) (hB : ∀ x ∈ X, RowB x.l) : RowIns w (smalls X) := by
  constructor
  · intro y hy
    obtain ⟨x, hx, e1, e2, _⟩ := smalls_mem hy
    rw [e1, e2]
    exact hr x hx
  · intro y hy
    obtain ⟨x, hx, e1, e2, e3⟩ := smalls_mem hy
    rw [e2]
    exact ⟨hB x hx, e3⟩

/-- Two lists put together can go in. -/
theorem ins_app {w : World} {base : Nat} {v : Value} {K1 K2 : List Cnt} (ho : OwnC w base v (K1 ++ K2)) (h1 : RowIns w K1) (h2 : RowIns w K2) (hl : K1.length + K2.length ≤ 1000000) : CntIns w v (K1 ++ K2) := by
  refine ⟨ho.val hkC, ?_, ?_, by rw [List.length_append]; exact hl⟩
  · intro x hx
    rcases List.mem_append.mp hx with h | h
    · exact h1.1 x h
    · exact h2.1 x h
  · intro x hx
    rcases List.mem_append.mp hx with h | h
    · exact h1.2 x h
    · exact h2.2 x h

theorem OwnC.shp {w : World} {base : Nat} {v : Value} {K : List Cnt} (h : OwnC w base v K) : ∃ A c, v = .slice A K.length c := by
  rcases h.shape with ⟨rfl, rfl⟩ | ⟨g, cap, rfl, _⟩
  · exact ⟨_, _, rfl⟩
  · exact ⟨_, _, rfl⟩

theorem tid_neg {P T : List CRow} (h : Tid 1 P T) (hf : ∀ r, fitsB (-1 * cntR P r) = true) : Tid (-1) P (T.map fun x => (x.1, -x.2)) := by
  refine ⟨?_, ?_, ?_⟩
  · rw [List.pairwise_map]; exact h.asc
  · intro x hx
    obtain ⟨y, hy, rfl⟩ := List.mem_map.mp hx
    have h1 := (h.nz y hy).1
    have h2 := asc_cnt T h.asc y hy
    rw [h.cnt] at h2
    have h3 := hf y.1
    have h4 : -1 * cntR P y.1 = -y.2 := by omega
    rw [h4] at h3
    exact ⟨by simp only; omega, h3⟩
  · intro r
    have h1 := h.cnt r
    have h2 : ∀ l : List CRow, cntR (l.map fun x => (x.1, -x.2)) r = - cntR l r := by
      intro l
      induction l with
      | nil => rfl
      | cons x t ih => rw [List.map_cons, cntR, cntR, ih]; split <;> omega
    rw [h2, h1]; omega

end Go.Proofs.Ytciijaejldfcaaa
