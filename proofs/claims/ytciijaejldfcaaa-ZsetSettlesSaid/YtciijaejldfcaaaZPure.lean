/-
  Counted rows as plain lists: how often a row is there; tidy lists; that they are told apart by how often each row is there.
-/
import Derived.Test.YtciijaejldfcaaaRowP
namespace Go.Proofs.Ytciijaejldfcaaa

/-- Has a sum room as a number? -/
def fitsB (a : Int) : Bool := decide (-9223372036854775808 ≤ a ∧ a ≤ 9223372036854775807)

abbrev CRow := List Dat × Int

/-- How often a row is there. -/
def cntR : List CRow → List Dat → Int
  | [], _ => 0
  | x :: t, r => (if cmpR x.1 r = 0 then x.2 else 0) + cntR t r

/-- All counts together. -/
def sumN : List CRow → Int
  | [] => 0
  | x :: t => x.2 + sumN t

theorem cntR_append : ∀ (a b : List CRow) (r : List Dat), cntR (a ++ b) r = cntR a r + cntR b r
  | [], b, r => by simp [cntR]
  | x :: a, b, r => by rw [List.cons_append, cntR, cntR, cntR_append a b r]; omega
theorem sumN_append : ∀ (a b : List CRow), sumN (a ++ b) = sumN a + sumN b
  | [], b => by simp [sumN]
  | x :: a, b => by rw [List.cons_append, sumN, sumN, sumN_append a b]; omega
theorem cntR_perm {a b : List CRow} (h : a.Perm b) (r : List Dat) : cntR a r = cntR b r := by
  induction h with
  | nil => rfl
  | cons x _ ih => rw [cntR, cntR, ih]
  | swap x y l => simp only [cntR]; omega
  | trans _ _ h1 h2 => exact h1.trans h2
theorem cntR_none : ∀ (l : List CRow) (r : List Dat), (∀ x ∈ l, cmpR x.1 r ≠ 0) → cntR l r = 0
  | [], r, _ => rfl
  | x :: t, r, h => by
    rw [cntR, if_neg (h x (by simp)), cntR_none t r (fun y hy => h y (by simp [hy]))]; rfl
theorem cntR_same : ∀ (l : List CRow) (r : List Dat), (∀ x ∈ l, x.1 = r) → cntR l r = sumN l
  | [], r, _ => rfl
  | x :: t, r, h => by
    rw [cntR, if_pos (by rw [h x (by simp)]; exact cmpR_self r), sumN, cntR_same t r (fun y hy => h y (by simp [hy]))]
theorem cntR_some (l : List CRow) (r : List Dat) (h : cntR l r ≠ 0) : ∃ x ∈ l, cmpR x.1 r = 0 := by
  apply Classical.byContradiction
  intro hn
  exact h (cntR_none l r (fun x hx e => hn ⟨x, hx, e⟩))

/-- A tidy list of sg times what P has. -/
structure Tid (sg : Int) (P T : List CRow) : Prop where
  asc : T.Pairwise fun x y => cmpR x.1 y.1 < 0
  nz : ∀ x ∈ T, x.2 ≠ 0 ∧ fitsB x.2 = true
  cnt : ∀ r, cntR T r = sg * cntR P r

theorem cmpR_lt_ne {a b : List Dat} (h : cmpR a b < 0) : cmpR b a ≠ 0 := by have := cmpR_anti a b; omega

theorem asc_cnt : ∀ (T : List CRow), (T.Pairwise fun x y => cmpR x.1 y.1 < 0) → ∀ x ∈ T, cntR T x.1 = x.2
  | [], _, x, hx => by simp at hx
  | y :: t, h, x, hx => by
    rw [List.pairwise_cons] at h
    rcases List.mem_cons.mp hx with rfl | hx
    · rw [cntR, if_pos (cmpR_self _), cntR_none t x.1 (fun z hz => cmpR_lt_ne (h.1 z hz))]; omega
    · rw [cntR, if_neg (by have := h.1 x hx; omega), asc_cnt t h.2 x hx]; omega

theorem tid_unique_aux : ∀ (T T' : List CRow), (T.Pairwise fun x y => cmpR x.1 y.1 < 0) → (T'.Pairwise fun x y => cmpR x.1 y.1 < 0) → (∀ x ∈ T, x.2 ≠ 0) → (∀ x ∈ T', x.2 ≠ 0) → (∀ r, cntR T r = cntR T' r) → T = T'
  | [], [], _, _, _, _, _ => rfl
  | [], y :: t, _, h', _, n', e => by
    have h1 := asc_cnt _ h' y (by simp)
    rw [← e] at h1
    exact absurd h1.symm (n' y (by simp))
  | x :: t, [], h, _, n, _, e => by
    have h1 := asc_cnt _ h x (by simp)
    rw [e] at h1
    exact absurd h1.symm (n x (by simp))
  | x :: t, y :: s, h, h', n, n', e => by
    have h1 := asc_cnt _ h x (by simp)
    have h2 := asc_cnt _ h' y (by simp)
    have nx := n x (by simp)
    have ny := n' y (by simp)
    have hc := cmpR_range x.1 y.1
    have ha := cmpR_anti x.1 y.1
    rw [List.pairwise_cons] at h h'
    have hlt : ¬ cmpR x.1 y.1 < 0 := by
      intro hl
      have : cntR (y :: s) x.1 = 0 := by
        apply cntR_none
        intro z hz
        rcases List.mem_cons.mp hz with rfl | hz
        · exact cmpR_lt_ne hl
        · exact cmpR_lt_ne (cmpR_ltle _ _ _ hl (by have := h'.1 z hz; omega))
      rw [e, this] at h1
      omega
    have hgt : ¬ cmpR y.1 x.1 < 0 := by
      intro hl
      have : cntR (x :: t) y.1 = 0 := by
        apply cntR_none
        intro z hz
        rcases List.mem_cons.mp hz with rfl | hz
        · exact cmpR_lt_ne hl
        · exact cmpR_lt_ne (cmpR_ltle _ _ _ hl (by have := h.1 z hz; omega))
      rw [← e, this] at h2
      omega
    have h0 : x.1 = y.1 := cmpR_eq _ _ (by omega)
    have hn : x.2 = y.2 := by rw [← h1, ← h2, e, h0]
    have hxy : x = y := Prod.ext h0 hn
    subst hxy
    have : t = s := by
      apply tid_unique_aux t s h.2 h'.2 (fun z hz => n z (by simp [hz])) (fun z hz => n' z (by simp [hz]))
      intro r
      have := e r
      rw [cntR, cntR] at this
      omega
    rw [this]

theorem Tid.unique {sg sg' : Int} {P P' T T' : List CRow} (h : Tid sg P T) (h' : Tid sg' P' T') (e : ∀ r, sg * cntR P r = sg' * cntR P' r) : T = T' :=
  tid_unique_aux T T' h.asc h'.asc (fun x hx => (h.nz x hx).1) (fun x hx => (h'.nz x hx).1) fun r => by rw [h.cnt, h'.cnt, e]

theorem Tid.nil (sg : Int) : Tid sg [] [] := ⟨List.Pairwise.nil, by simp, by simp [cntR]⟩

/-- One group of equal rows more. -/
theorem Tid.step {sg : Int} {P T : List CRow} (h : Tid sg P T) (G : List CRow) (r : List Dat) (hG : ∀ x ∈ G, x.1 = r) (hP : ∀ x ∈ P, cmpR x.1 r < 0) (hf : fitsB (sg * sumN G) = true) :
    (sg * sumN G = 0 → Tid sg (P ++ G) T) ∧ (sg * sumN G ≠ 0 → Tid sg (P ++ G) (T ++ [(r, sg * sumN G)])) := by
  have hg : ∀ q, cntR G q = if cmpR r q = 0 then sumN G else 0 := by
    intro q
    by_cases hq : cmpR r q = 0
    · rw [if_pos hq, ← cmpR_eq _ _ hq]; exact cntR_same G r hG
    · rw [if_neg hq]; exact cntR_none G q (fun x hx => by rw [hG x hx]; exact hq)
  have hT : ∀ x ∈ T, cmpR x.1 r < 0 := by
    intro x hx
    have h1 := asc_cnt T h.asc x hx
    rw [h.cnt] at h1
    have h2 := (h.nz x hx).1
    have h3 : cntR P x.1 ≠ 0 := by intro e; rw [e] at h1; omega
    obtain ⟨y, hy, hyx⟩ := cntR_some P x.1 h3
    rw [← cmpR_eq _ _ hyx]
    exact hP y hy
  constructor
  · intro h0
    refine ⟨h.asc, h.nz, fun q => ?_⟩
    rw [cntR_append, h.cnt, hg, Int.mul_add]
    split
    · rw [h0]; omega
    · omega
  · intro h0
    refine ⟨?_, ?_, fun q => ?_⟩
    · rw [List.pairwise_append]
      refine ⟨h.asc, by simp, ?_⟩
      intro x hx y hy
      simp at hy
      subst hy
      exact hT x hx
    · intro x hx
      rcases List.mem_append.mp hx with hx | hx
      · exact h.nz x hx
      · simp at hx
        subst hx
        exact ⟨h0, hf⟩
    · rw [cntR_append, cntR_append, h.cnt, hg, Int.mul_add]
      simp only [cntR]
      split
      · omega
      · omega

/-- Where a group has no room the whole has none. -/
theorem no_room {sg : Int} (P G Q : List CRow) (r : List Dat) (hG : ∀ x ∈ G, x.1 = r) (hP : ∀ x ∈ P, cmpR x.1 r < 0) (hQ : ∀ x ∈ Q, cmpR x.1 r ≠ 0) (hf : fitsB (sg * sumN G) = false) : ∃ q, fitsB (sg * cntR (P ++ G ++ Q) q) = false := by
  refine ⟨r, ?_⟩
  rw [cntR_append, cntR_append, cntR_none P r (fun x hx => by have := hP x hx; omega), cntR_same G r hG, cntR_none Q r hQ]
  rw [show (0 : Int) + sumN G + 0 = sumN G by omega]
  exact hf

theorem Tid.perm {sg : Int} {P P' T : List CRow} (h : Tid sg P T) (hp : P.Perm P') : Tid sg P' T := ⟨h.asc, h.nz, fun r => by rw [h.cnt, cntR_perm hp]⟩

theorem sumN_bound (B : Int) (hB : 0 ≤ B) : ∀ G : List CRow, (∀ x ∈ G, -B ≤ x.2 ∧ x.2 ≤ B) → -(B * G.length) ≤ sumN G ∧ sumN G ≤ B * G.length
  | [], _ => by simp [sumN]
  | x :: t, h => by
    have h1 := sumN_bound B hB t (fun y hy => h y (by simp [hy]))
    have h2 := h x (by simp)
    rw [sumN, List.length_cons]
    have : B * ((t.length + 1 : Nat) : Int) = B * t.length + B := by rw [Int.natCast_add, Int.mul_add]; simp
    omega

end Go.Proofs.Ytciijaejldfcaaa
