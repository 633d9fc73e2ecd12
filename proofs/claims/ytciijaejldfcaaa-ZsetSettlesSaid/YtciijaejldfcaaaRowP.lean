/-
  Rows of values as plain lists: their order and its laws; no conditions.
-/
import Derived.Test.YtciijaejldfcaaaPure
namespace Go.Proofs.Ytciijaejldfcaaa

structure Dat where
  k : Int
  i : Int
  s : ByteArray

/-- What datum.Compare answers of two values. -/
def cmpD (a b : Dat) : Int := ordD a.k a.i a.s b.k b.i b.s

/-- What row.Compare answers. -/
def cmpR : List Dat → List Dat → Int
  | [], [] => 0
  | [], _ :: _ => -1
  | _ :: _, [] => 1
  | a :: as, b :: bs => if cmpD a b = 0 then cmpR as bs else cmpD a b

/-- The bounds of a value's numbers. -/
def InI (d : Dat) : Prop := -9223372036854775808 ≤ d.i ∧ d.i ≤ 9223372036854775807

theorem cmpD_self (a : Dat) : cmpD a a = 0 := ordD_self _ _ _
theorem cmpD_anti (a b : Dat) : cmpD b a = - cmpD a b := ordD_anti _ _ _ _ _ _
theorem cmpD_range (a b : Dat) : -1 ≤ cmpD a b ∧ cmpD a b ≤ 1 := ordD_range _ _ _ _ _ _
theorem cmpD_eq (a b : Dat) (h : cmpD a b = 0) : a = b := by
  obtain ⟨h1, h2, h3⟩ := ordD_eq _ _ _ _ _ _ h
  cases a; cases b; simp_all
theorem cmpD_trans (a b c : Dat) (h : cmpD a b ≤ 0) (h2 : cmpD b c ≤ 0) : cmpD a c ≤ 0 := ordD_trans _ _ _ _ _ _ _ _ _ h h2

theorem cmpR_self : ∀ a : List Dat, cmpR a a = 0
  | [] => rfl
  | a :: as => by rw [cmpR, if_pos (cmpD_self a)]; exact cmpR_self as
theorem cmpR_range : ∀ a b : List Dat, -1 ≤ cmpR a b ∧ cmpR a b ≤ 1
  | [], [] => by simp [cmpR]
  | [], _ :: _ => by simp [cmpR]
  | _ :: _, [] => by simp [cmpR]
  | a :: as, b :: bs => by
    rw [cmpR]; split
    · exact cmpR_range as bs
    · exact cmpD_range a b
theorem cmpR_anti : ∀ a b : List Dat, cmpR b a = - cmpR a b
  | [], [] => by simp [cmpR]
  | [], _ :: _ => by simp [cmpR]
  | _ :: _, [] => by simp [cmpR]
  | a :: as, b :: bs => by
    rw [cmpR, cmpR, cmpD_anti a b]
    by_cases h : cmpD a b = 0
    · rw [if_pos h, if_pos (by omega)]; exact cmpR_anti as bs
    · rw [if_neg h, if_neg (by omega)]
theorem cmpR_eq : ∀ a b : List Dat, cmpR a b = 0 → a = b
  | [], [] => fun _ => rfl
  | [], _ :: _ => by simp [cmpR]
  | _ :: _, [] => by simp [cmpR]
  | a :: as, b :: bs => by
    rw [cmpR]; intro h; split at h
    · rename_i h1; rw [cmpD_eq a b h1, cmpR_eq as bs h]
    · rename_i h1; exact absurd h h1
theorem cmpR_trans : ∀ a b c : List Dat, cmpR a b ≤ 0 → cmpR b c ≤ 0 → cmpR a c ≤ 0
  | [], b, [] => by intros; simp [cmpR]
  | [], b, _ :: _ => by intros; simp [cmpR]
  | _ :: _, [], _ => by simp [cmpR]
  | _ :: _, _ :: _, [] => by simp [cmpR]
  | a :: as, b :: bs, c :: cs => by
    rw [cmpR, cmpR, cmpR]
    intro h h2
    have ab := cmpD_range a b
    by_cases h1 : cmpD a b = 0
    · rw [if_pos h1] at h
      obtain rfl := cmpD_eq a b h1
      by_cases h3 : cmpD a c = 0
      · rw [if_pos h3] at h2 ⊢; exact cmpR_trans as bs cs h h2
      · rw [if_neg h3] at h2 ⊢; exact h2
    · rw [if_neg h1] at h
      by_cases h3 : cmpD b c = 0
      · obtain rfl := cmpD_eq b c h3
        rw [if_neg h1]; exact h
      · rw [if_neg h3] at h2
        have ht := cmpD_trans a b c h h2
        by_cases h4 : cmpD a c = 0
        · exfalso
          obtain rfl := cmpD_eq a c h4
          have := cmpD_anti a b
          omega
        · rw [if_neg h4]; exact ht
theorem cmpR_ltle (a b c : List Dat) (h : cmpR a b < 0) (h2 : cmpR b c ≤ 0) : cmpR a c < 0 := by
  have h3 := cmpR_trans a b c (by omega) h2
  by_cases h4 : cmpR a c = 0
  · obtain rfl := cmpR_eq a c h4
    have := cmpR_anti a b
    omega
  · omega
theorem cmpR_lelt (a b c : List Dat) (h : cmpR a b ≤ 0) (h2 : cmpR b c < 0) : cmpR a c < 0 := by
  have h3 := cmpR_trans a b c h (by omega)
  by_cases h4 : cmpR a c = 0
  · obtain rfl := cmpR_eq a c h4
    have := cmpR_anti a b
    omega
  · omega

end Go.Proofs.Ytciijaejldfcaaa
