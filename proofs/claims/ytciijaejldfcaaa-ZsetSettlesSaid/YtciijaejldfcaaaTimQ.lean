/-
  What the law ZsetTimes comes to, of plain lists.
-/
import Derived.Test.YtciijaejldfcaaaLater
import Derived.Test.YtciijaejldfcaaaGrpP
namespace Go.Proofs.Ytciijaejldfcaaa.Up
open Go.RowKit

/-- The counts of all keys that a test takes. -/
def bsum (p : KeyU → Bool) : List CRow → Int
  | [] => 0
  | x :: t => (if p x.1 then x.2 else 0) + bsum p t

theorem bsum_split (p : KeyU → Bool) (k : KeyU) : ∀ P : List CRow, bsum p P = (if p k then cntR P k else 0) + bsum p (P.filter fun x => decide (cmpK x.1 k ≠ 0))
  | [] => by simp [bsum, cntR]
  | x :: t => by
    have ih := bsum_split p k t
    by_cases h : cmpK x.1 k = 0
    · have e := cmpK_eq _ _ h
      rw [List.filter_cons_of_neg (by simpa using h), bsum, cntR, if_pos h, ih, e]
      split <;> omega
    · rw [List.filter_cons_of_pos (by simpa using h), bsum, cntR, if_neg h, bsum, ih]
      split <;> split <;> omega
theorem cnt_filter (k r : KeyU) : ∀ P : List CRow, cntR (P.filter fun x => decide (cmpK x.1 k ≠ 0)) r = if cmpK r k = 0 then 0 else cntR P r
  | [] => by simp [cntR]
  | x :: t => by
    have ih := cnt_filter k r t
    by_cases h : cmpK x.1 k = 0
    · have e := cmpK_eq _ _ h
      rw [List.filter_cons_of_neg (by simpa using h), ih]
      by_cases hr : cmpK r k = 0
      · rw [if_pos hr, if_pos hr]
      · have h2 : ¬ cmpK x.1 r = 0 := by
          intro h2
          have e2 := cmpK_eq _ _ h2
          rw [← e2] at hr
          exact hr h
        rw [if_neg hr, if_neg hr, cntR, if_neg h2]; omega
    · rw [List.filter_cons_of_pos (by simpa using h), cntR, ih]
      by_cases hr : cmpK r k = 0
      · have e2 := cmpK_eq _ _ hr
        rw [if_pos hr, if_pos hr, if_neg (by rw [e2]; exact h)]; rfl
      · rw [if_neg hr, if_neg hr, cntR]
theorem bsum_zero (p : KeyU → Bool) : ∀ (n : Nat) (P : List CRow), P.length ≤ n → (∀ k, cntR P k = 0) → bsum p P = 0
  | _, [], _, _ => rfl
  | 0, x :: t, h, _ => by simp at h
  | n + 1, x :: t, h, hc => by
    rw [bsum_split p x.1, hc x.1]
    have h2 : ((x :: t).filter fun y => decide (cmpK y.1 x.1 ≠ 0)) = t.filter fun y => decide (cmpK y.1 x.1 ≠ 0) := by
      rw [List.filter_cons_of_neg (by simpa using cmpK_self x.1)]
    have h3 := bsum_zero p n ((x :: t).filter fun y => decide (cmpK y.1 x.1 ≠ 0)) (by rw [h2]; simp at h; exact Nat.le_trans (List.length_filter_le _ _) h) (by intro k; rw [cnt_filter, hc k]; split <;> rfl)
    rw [h3]; split <;> rfl
theorem bsum_append (p : KeyU → Bool) : ∀ P Q : List CRow, bsum p (P ++ Q) = bsum p P + bsum p Q
  | [], Q => by simp [bsum]
  | x :: t, Q => by rw [List.cons_append, bsum, bsum, bsum_append p t Q]; omega
def negU (P : List CRow) : List CRow := P.map fun x => (x.1, -x.2)
theorem bsum_neg (p : KeyU → Bool) : ∀ P : List CRow, bsum p (negU P) = - bsum p P
  | [] => rfl
  | x :: t => by
    have ih := bsum_neg p t
    unfold negU at ih ⊢
    rw [List.map_cons, bsum, bsum, ih]
    split <;> simp <;> omega
theorem cnt_neg (r : KeyU) : ∀ P : List CRow, cntR (negU P) r = - cntR P r
  | [] => rfl
  | x :: t => by
    have ih := cnt_neg r t
    unfold negU at ih ⊢
    rw [List.map_cons, cntR, cntR, ih]
    simp only
    split <;> omega
theorem bsum_eq (p : KeyU → Bool) (P Q : List CRow) (h : ∀ k, cntR P k = cntR Q k) : bsum p P = bsum p Q := by
  have h1 := bsum_zero p _ (P ++ negU Q) (Nat.le_refl _) (by intro k; rw [cntR_append, cnt_neg, h k]; omega)
  rw [bsum_append, bsum_neg] at h1
  omega

theorem at_cons (x : Cnt) (s : List Cnt) (t : Int) : atC (x :: s) t = if x.l.1 ≤ t then ⟨x.v, x.l.2, x.n⟩ :: atC s t else atC s t := by
  unfold atC
  by_cases h : x.l.1 ≤ t
  · rw [List.filter_cons_of_pos (by simpa using h), List.map_cons, if_pos h]
  · rw [List.filter_cons_of_neg (by simpa using h), if_neg h]
/-- What is there at a time is a sum over keys. -/
theorem at_bsum (t : Int) (r : List Dat) : ∀ L : List Cnt, Ytciijaejldfcaaa.cntR (Ytciijaejldfcaaa.plainC (atC L t)) r = bsum (fun k => decide (k.1 ≤ t) && decide (cmpR k.2 r = 0)) (plainC L)
  | [] => rfl
  | x :: s => by
    have ih := at_bsum t r s
    have h2 : plainC (x :: s) = (x.l, x.n) :: plainC s := rfl
    rw [at_cons, h2, bsum, ← ih]
    by_cases h : x.l.1 ≤ t
    · rw [if_pos h]
      have h3 : Ytciijaejldfcaaa.plainC (⟨x.v, x.l.2, x.n⟩ :: atC s t) = (x.l.2, x.n) :: Ytciijaejldfcaaa.plainC (atC s t) := rfl
      rw [h3, Ytciijaejldfcaaa.cntR]
      simp [h]
    · rw [if_neg h]
      simp [h]
theorem at_same {L M : List Cnt} (h : ∀ k, cntR (plainC L) k = cntR (plainC M) k) (t : Int) (r : List Dat) : Ytciijaejldfcaaa.cntR (Ytciijaejldfcaaa.plainC (atC L t)) r = Ytciijaejldfcaaa.cntR (Ytciijaejldfcaaa.plainC (atC M t)) r := by
  rw [at_bsum, at_bsum, bsum_eq _ _ _ h]
theorem at_later {s t : Int} (h : s ≤ t) : ∀ L : List Cnt, atC (L.map (laterU s)) t = atC L t
  | [] => rfl
  | x :: l => by
    rw [List.map_cons, at_cons, at_cons, at_later h l]
    have e : ((laterU s x).l.1 ≤ t) ↔ x.l.1 ≤ t := by
      show max x.l.1 s ≤ t ↔ _
      omega
    by_cases hx : x.l.1 ≤ t
    · rw [if_pos hx, if_pos (e.mpr hx)]; rfl
    · rw [if_neg hx, if_neg (fun q => hx (e.mp q))]

/-- An update as a counted row. -/
def toC (x : Cnt) : Ytciijaejldfcaaa.Cnt := ⟨x.v, x.l.2, x.n⟩
/-- The updates between two times. -/
def betw (s t : Int) (L : List Cnt) : List Cnt := L.filter fun x => decide (s < x.l.1) && decide (x.l.1 ≤ t)
theorem at_betw {s t : Int} (h : s ≤ t) (r : List Dat) : ∀ L : List Cnt, Ytciijaejldfcaaa.cntR (Ytciijaejldfcaaa.plainC (atC L t)) r = Ytciijaejldfcaaa.cntR (Ytciijaejldfcaaa.plainC (atC L s)) r + Ytciijaejldfcaaa.cntR (Ytciijaejldfcaaa.plainC ((betw s t L).map toC)) r
  | [] => rfl
  | x :: l => by
    have ih := at_betw h r l
    have hc : ∀ (y : Ytciijaejldfcaaa.Cnt) K, Ytciijaejldfcaaa.cntR (Ytciijaejldfcaaa.plainC (y :: K)) r = (if cmpR y.l r = 0 then y.n else 0) + Ytciijaejldfcaaa.cntR (Ytciijaejldfcaaa.plainC K) r := fun y K => rfl
    rw [at_cons, at_cons]
    unfold betw at ih ⊢
    by_cases h1 : x.l.1 ≤ s
    · rw [if_pos (by omega), if_pos h1, List.filter_cons_of_neg (by simp; omega), hc, hc, ih]; omega
    · by_cases h2 : x.l.1 ≤ t
      · rw [if_pos h2, if_neg h1, List.filter_cons_of_pos (by simp; omega), List.map_cons, hc, hc, ih]; simp only [toC]; omega
      · rw [if_neg h2, if_neg h1, List.filter_cons_of_neg (by simp; omega), ih]

/-- A count cut to less than a million. -/
def smallU (x : Cnt) : Cnt := ⟨x.v, x.l, x.n.tmod 1000000⟩
def smallsU (X : List Cnt) : List Cnt := (X.take 60).map smallU
theorem smallsU_len (X : List Cnt) : (smallsU X).length ≤ 60 := by unfold smallsU; rw [List.length_map, List.length_take]; omega

/-- Times rise in what is settled. -/
theorem tid_times {sg : Int} {P : List CRow} {K : List Cnt} (h : Tid sg P (plainC K)) (i : Nat) (hi : i + 1 < K.length) : K[i].l.1 ≤ K[i + 1].l.1 := by
  have h1 := h.asc
  unfold plainC at h1
  rw [List.pairwise_map, List.pairwise_iff_getElem] at h1
  have h2 : cmpK K[i].l K[i + 1].l < 0 := h1 i (i + 1) (by omega) hi (by omega)
  unfold cmpK at h2
  split at h2
  · omega
  · unfold ordI at h2
    split at h2 <;> first | omega | (split at h2 <;> omega)

end Go.Proofs.Ytciijaejldfcaaa.Up
