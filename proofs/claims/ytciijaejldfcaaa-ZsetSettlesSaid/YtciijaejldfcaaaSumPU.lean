/-
  What the groups of a sorted list of updates come to.
-/
import Derived.Test.YtciijaejldfcaaaSumP
import Derived.Test.YtciijaejldfcaaaClosU
import Derived.Test.YtciijaejldfcaaaCntsU
namespace Go.Proofs.Ytciijaejldfcaaa.Up
open Go.RowKit

def plainC (K : List Cnt) : List CRow := K.map fun x => (x.l, x.n)
theorem plainC_append (a b : List Cnt) : plainC (a ++ b) = plainC a ++ plainC b := by unfold plainC; simp

/-- The k elements from place j on. -/
def grpOf (D : List Cnt) (j k : Nat) : List Cnt := (D.drop j).take k
/-- All ahead of place j are less than all from there on. -/
def Bnd (D : List Cnt) (j : Nat) : Prop := ∀ x ∈ D.take j, ∀ y ∈ D.drop j, cmpK x.l y.l < 0
/-- k equal ones from place j on, and all behind them are greater. -/
def Grp (D : List Cnt) (j k : Nat) (r : KeyU) : Prop := (∀ x ∈ grpOf D j k, x.l = r) ∧ ∀ y ∈ D.drop (j + k), cmpK r y.l < 0

theorem mem_drop (D : List Cnt) (j : Nat) (hj : j < D.length) : D[j] ∈ D.drop j := by rw [List.drop_eq_getElem_cons hj]; exact List.mem_cons_self
theorem bnd_zero (D : List Cnt) : Bnd D 0 := by intro x hx; simp at hx
theorem take_grp (D : List Cnt) (j k : Nat) : D.take (j + k) = D.take j ++ grpOf D j k := by unfold grpOf; rw [List.take_add]
theorem bnd_next {D : List Cnt} {j k : Nat} {r : KeyU} (h : Bnd D j) (hg : Grp D j k r) : Bnd D (j + k) := by
  intro x hx y hy
  rw [take_grp] at hx
  rcases List.mem_append.mp hx with hx | hx
  · refine h x hx y ?_
    rw [← List.drop_drop] at hy
    exact List.mem_of_mem_drop hy
  · rw [hg.1 x hx]; exact hg.2 y hy

theorem grp_succ (D : List Cnt) (j k : Nat) (h : j + k < D.length) : grpOf D j (k + 1) = grpOf D j k ++ [D[j + k]] := by
  unfold grpOf
  rw [List.take_succ_eq_append_getElem (by rw [List.length_drop]; omega)]
  simp
theorem sum_succ (D : List Cnt) (j k : Nat) (h : j + k < D.length) (sg : Int) : sg * sumN (plainC (grpOf D j (k + 1))) = sg * sumN (plainC (grpOf D j k)) + sg * D[j + k].n := by
  rw [grp_succ D j k h, plainC_append, sumN_append, Int.mul_add]
  simp [plainC, sumN]

theorem grp_end {D : List Cnt} (hs : D.Pairwise fun x y => cmpK x.l y.l ≤ 0) (j k : Nat) (hj : j < D.length) (hk : j + k = D.length ∨ ∃ h : j + k < D.length, cmpK D[j].l D[j + k].l ≠ 0) (he : ∀ x ∈ grpOf D j k, x.l = D[j].l) : Grp D j k D[j].l := by
  refine ⟨he, fun y hy => ?_⟩
  rcases hk with hk | ⟨h, hne⟩
  · rw [List.drop_eq_nil_of_le (by omega)] at hy; simp at hy
  · have k0 : k ≠ 0 := by rintro rfl; exact hne (cmpK_self _)
    rw [List.pairwise_iff_getElem] at hs
    have h1 := hs j (j + k) hj h (by omega)
    obtain ⟨i, hi, rfl⟩ := List.getElem_of_mem hy
    rw [List.length_drop] at hi
    rw [List.getElem_drop]
    by_cases h0 : i = 0
    · subst h0; simp only [Nat.add_zero]; omega
    · have h2 := hs (j + k) (j + k + i) h (by omega) (by omega)
      exact cmpK_ltle _ _ _ (by omega) h2

/-- The group is told: the tidy list goes on. -/
theorem tid_next {sg : Int} {D : List Cnt} {j k : Nat} {r : KeyU} {K : List CRow} (hj : j < D.length) (hr : r = D[j].l) (hb : Bnd D j) (hg : Grp D j k r) (ht : Tid sg (plainC (D.take j)) K) (hf : fitsB (sg * sumN (plainC (grpOf D j k))) = true) :
    (sg * sumN (plainC (grpOf D j k)) = 0 → Tid sg (plainC (D.take (j + k))) K) ∧ (sg * sumN (plainC (grpOf D j k)) ≠ 0 → Tid sg (plainC (D.take (j + k))) (K ++ [(r, sg * sumN (plainC (grpOf D j k)))])) := by
  rw [take_grp, plainC_append]
  refine ht.step (plainC (grpOf D j k)) r ?_ ?_ hf
  · intro x hx
    unfold plainC at hx
    obtain ⟨y, hy, rfl⟩ := List.mem_map.mp hx
    exact hg.1 y hy
  · intro x hx
    unfold plainC at hx
    obtain ⟨y, hy, rfl⟩ := List.mem_map.mp hx
    rw [hr]
    exact hb y hy _ (mem_drop D j hj)

theorem tid_none {sg : Int} {D L : List Cnt} {j k : Nat} {r : KeyU} (hp : D.Perm L) (hj : j < D.length) (hr : r = D[j].l) (hb : Bnd D j) (hg : Grp D j k r) (hf : fitsB (sg * sumN (plainC (grpOf D j k))) = false) :
    ∃ q, fitsB (sg * cntR (plainC L) q) = false := by
  have h1 : plainC D = plainC (D.take j) ++ plainC (grpOf D j k) ++ plainC (D.drop (j + k)) := by
    rw [← plainC_append, ← take_grp, ← plainC_append, List.take_append_drop]
  have h2 := no_room (sg := sg) (plainC (D.take j)) (plainC (grpOf D j k)) (plainC (D.drop (j + k))) r
    (by intro x hx; unfold plainC at hx; obtain ⟨y, hy, rfl⟩ := List.mem_map.mp hx; exact hg.1 y hy)
    (by intro x hx; unfold plainC at hx; obtain ⟨y, hy, rfl⟩ := List.mem_map.mp hx; rw [hr]; exact hb y hy _ (mem_drop D j hj))
    (by intro x hx; unfold plainC at hx; obtain ⟨y, hy, rfl⟩ := List.mem_map.mp hx; exact cmpK_lt_ne (hg.2 y hy)) hf
  rw [← h1] at h2
  obtain ⟨q, hq⟩ := h2
  exact ⟨q, by rw [← cntR_perm (show (plainC D).Perm (plainC L) from hp.map _)]; exact hq⟩

theorem sum_small (sg : Int) (hsg : sg = 1 ∨ sg = -1) (D : List Cnt) (j k : Nat) (hl : D.length ≤ 1000000) (hn : ∀ x ∈ D, -9223372036854775808 ≤ x.n ∧ x.n ≤ 9223372036854775807) :
    -170141183460469231731687303715884105728 ≤ sg * sumN (plainC (grpOf D j k)) ∧ sg * sumN (plainC (grpOf D j k)) < 170141183460469231731687303715884105728 := by
  have h1 := sumN_bound 9223372036854775808 (by decide) (plainC (grpOf D j k)) (by
    intro x hx
    unfold plainC at hx
    obtain ⟨y, hy, rfl⟩ := List.mem_map.mp hx
    have := hn y (List.mem_of_mem_drop (List.mem_of_mem_take hy))
    constructor <;> simp only <;> omega)
  have h2 : (plainC (grpOf D j k)).length ≤ 1000000 := by
    unfold plainC grpOf
    rw [List.length_map, List.length_take, List.length_drop]
    omega
  rcases hsg with rfl | rfl <;> omega

/-- Each row is new memory. -/
def FreshIn (w : World) (base : Nat) (K : List Cnt) : Prop := ∀ x ∈ K, FreshV w base x.v x.l.2
theorem FreshIn.below {w w' : World} {base : Nat} {K : List Cnt} (h : FreshIn w base K) (hb : Below w.heap.size w w') : FreshIn w' base K := fun x hx => (h x hx).below hb

theorem FreshIn.more {w : World} {base base' : Nat} {K : List Cnt} (h : FreshIn w base K) (hb : base' ≤ base) : FreshIn w base' K := fun x hx => (h x hx).more hb
/-- A row of the call's own stays while a list of counted rows grows. -/
theorem freshV_kept {w w' : World} {base b0 : Nat} {v u : Value} {l : List Dat} {K : List Cnt} (h : FreshV w base v l) (ho : OwnC w b0 u K) (hg : w.grownBy w' u.ownBlock) : FreshV w' base v l := by
  obtain ⟨b, e, h1, h2⟩ := h
  have hl := h2.lt
  refine ⟨b, e, h1, ?_⟩
  unfold Blk at h2 ⊢
  rw [hg.block b hl ?_]
  · exact h2
  · intro e'
    have e' := e'.symm
    rcases ho.2 with ⟨rfl, _⟩ | ⟨g, cap, cur, rfl, _, hh, _⟩
    · cases e'
    · injection e' with e'
      subst e'
      rw [h2] at hh
      injection hh with hh
      injection hh with _ ht _
      cases ht
theorem FreshIn.kept {w w' : World} {base b0 : Nat} {u : Value} {K K0 : List Cnt} (h : FreshIn w base K) (ho : OwnC w b0 u K0) (hg : w.grownBy w' u.ownBlock) : FreshIn w' base K := fun x hx => freshV_kept (h x hx) ho hg

theorem valC_lit (w : World) (x : Cnt) : CntV (w.alloc (.cells #[x.v, .int .i64 x.l.1, .int .i64 x.n] 48)) (.slice (some ⟨w.heap.size, 0, none⟩) 1 1) [x] := by
  refine .inr ⟨w.heap.size, 0, 1, rfl, by simp [maxLen], by simp, ?_, Nat.le_refl _⟩
  intro i y hi r u hr
  have hb := Blk.new w #[x.v, .int .i64 x.l.1, .int .i64 x.n] 48
  match i, hi with
  | 0, hi =>
    simp only [List.getElem?_cons_zero, Option.some.injEq] at hi
    subst hi
    rw [show 0 + 0 * 3 + r = r by omega, hb.cell]
    simpa [encC] using hr
  | i + 1, hi => simp at hi

/-- What sums leaves: the tidy list in new memory, or ErrDiff. -/
def TidPost (sg : Int) (P : List CRow) (w : World) (e : Ending) (w' : World) : Prop :=
  Below w.heap.size w w' ∧ (((∃ r, fitsB (sg * cntR P r) = false) ∧ e = .returned (.tuple #[.slice none 0 0, .int .i64 30])) ∨
    ∃ v' K, e = .returned (.tuple #[v', .int .i64 0]) ∧ Tid sg P (plainC K) ∧ OwnC w' w.heap.size v' K ∧ FreshIn w' w.heap.size K ∧ K.length ≤ P.length)

end Go.Proofs.Ytciijaejldfcaaa.Up
