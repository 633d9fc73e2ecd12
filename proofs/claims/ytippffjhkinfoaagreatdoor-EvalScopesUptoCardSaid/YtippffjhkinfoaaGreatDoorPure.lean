/-
  The order of values as a plain function, and its laws: it is total; no conditions.
-/
import Derived.Lib.Bytealg
namespace Go.Proofs.YtippffjhkinfoaaGreatDoor

/-- The order of two numbers: -1, 0, 1. -/
def ordI (a b : Int) : Int := if a < b then -1 else if b < a then 1 else 0

theorem ordI_self (a : Int) : ordI a a = 0 := by unfold ordI; simp
theorem ordI_anti (a b : Int) : ordI b a = - ordI a b := by unfold ordI; split <;> split <;> (try split) <;> omega
theorem ordI_cases (a b : Int) : (a < b ∧ ordI a b = -1) ∨ (a = b ∧ ordI a b = 0) ∨ (b < a ∧ ordI a b = 1) := by
  unfold ordI; split
  · left; constructor <;> first | assumption | rfl
  · split
    · right; right; constructor <;> first | assumption | rfl
    · right; left; constructor <;> first | omega | rfl

theorem u8_lt_irrefl (a : UInt8) : ¬ a < a := by simp
theorem u8_tri (a b : UInt8) : a < b ∨ a = b ∨ b < a := by
  rcases Nat.lt_trichotomy a.toNat b.toNat with h | h | h
  · left; exact UInt8.lt_iff_toNat_lt.mpr h
  · right; left; exact UInt8.toNat_inj.mp h
  · right; right; exact UInt8.lt_iff_toNat_lt.mpr h
theorem u8_asymm {a b : UInt8} (h : a < b) : ¬ b < a := by
  rw [UInt8.lt_iff_toNat_lt] at *; omega
theorem u8_trans {a b c : UInt8} (h : a < b) (h2 : b < c) : a < c := by
  rw [UInt8.lt_iff_toNat_lt] at *; omega

theorem cb_self : ∀ a : List UInt8, Lib.compareBytes a a = 0
  | [] => by simp [Lib.compareBytes]
  | a :: as => by rw [Lib.compareBytes, if_neg (u8_lt_irrefl a), if_neg (u8_lt_irrefl a)]; exact cb_self as

theorem cb_range : ∀ a b : List UInt8, -1 ≤ Lib.compareBytes a b ∧ Lib.compareBytes a b ≤ 1
  | [], [] => by simp [Lib.compareBytes]
  | [], _ :: _ => by simp [Lib.compareBytes]
  | _ :: _, [] => by simp [Lib.compareBytes]
  | a :: as, b :: bs => by
    rw [Lib.compareBytes]
    split
    · omega
    · split
      · omega
      · exact cb_range as bs

theorem cb_eq : ∀ a b : List UInt8, Lib.compareBytes a b = 0 → a = b
  | [], [] => fun _ => rfl
  | [], _ :: _ => by simp [Lib.compareBytes]
  | _ :: _, [] => by simp [Lib.compareBytes]
  | a :: as, b :: bs => by
    rw [Lib.compareBytes]
    intro h
    rcases u8_tri a b with h1 | h1 | h1
    · rw [if_pos h1] at h; omega
    · subst h1
      rw [if_neg (u8_lt_irrefl a), if_neg (u8_lt_irrefl a)] at h
      rw [cb_eq as bs h]
    · rw [if_neg (u8_asymm h1), if_pos h1] at h; omega

theorem cb_anti : ∀ a b : List UInt8, Lib.compareBytes b a = - Lib.compareBytes a b
  | [], [] => by simp [Lib.compareBytes]
  | [], _ :: _ => by simp [Lib.compareBytes]
  | _ :: _, [] => by simp [Lib.compareBytes]
  | a :: as, b :: bs => by
    rw [Lib.compareBytes, Lib.compareBytes]
    rcases u8_tri a b with h1 | h1 | h1
    · rw [if_pos h1, if_neg (u8_asymm h1), if_pos h1]; rfl
    · subst h1
      rw [if_neg (u8_lt_irrefl a), if_neg (u8_lt_irrefl a), if_neg (u8_lt_irrefl a), if_neg (u8_lt_irrefl a)]
      exact cb_anti as bs
    · rw [if_pos h1, if_neg (u8_asymm h1), if_pos h1]

theorem cb_trans : ∀ a b c : List UInt8, Lib.compareBytes a b ≤ 0 → Lib.compareBytes b c ≤ 0 → Lib.compareBytes a c ≤ 0
  | [], b, [] => by intros; simp [Lib.compareBytes]
  | [], b, _ :: _ => by intros; simp [Lib.compareBytes]
  | _ :: _, [], _ => by simp [Lib.compareBytes]
  | _ :: _, _ :: _, [] => by simp [Lib.compareBytes]
  | a :: as, b :: bs, c :: cs => by
    rw [Lib.compareBytes, Lib.compareBytes, Lib.compareBytes]
    intro h h2
    rcases u8_tri a b with h1 | h1 | h1
    · rcases u8_tri b c with h3 | h3 | h3
      · rw [if_pos (u8_trans h1 h3)]; omega
      · subst h3; rw [if_pos h1]; omega
      · rw [if_neg (u8_asymm h3), if_pos h3] at h2; omega
    · subst h1
      rcases u8_tri a c with h3 | h3 | h3
      · rw [if_pos h3]; omega
      · subst h3
        rw [if_neg (u8_lt_irrefl a), if_neg (u8_lt_irrefl a)] at *
        exact cb_trans as bs cs h h2
      · rw [if_neg (u8_asymm h3), if_pos h3] at h2; omega
    · rw [if_neg (u8_asymm h1), if_pos h1] at h; omega

/-- What datum.Compare answers. -/
def ordD (k1 i1 : Int) (s1 : ByteArray) (k2 i2 : Int) (s2 : ByteArray) : Int :=
  if k1 = k2 then (if i1 = i2 then Lib.compareBytes s1.data.toList s2.data.toList else ordI i1 i2) else ordI k1 k2

theorem ba_eq {s1 s2 : ByteArray} (h : s1.data.toList = s2.data.toList) : s1 = s2 := by
  cases s1; cases s2; simp at h; simp [h]

theorem ordD_self (k i : Int) (s : ByteArray) : ordD k i s k i s = 0 := by
  unfold ordD; rw [if_pos rfl, if_pos rfl]; exact cb_self _
theorem ordD_anti (k1 i1 : Int) (s1 : ByteArray) (k2 i2 : Int) (s2 : ByteArray) : ordD k2 i2 s2 k1 i1 s1 = - ordD k1 i1 s1 k2 i2 s2 := by
  unfold ordD
  by_cases hk : k1 = k2
  · by_cases hi : i1 = i2
    · rw [if_pos hk, if_pos hi, if_pos hk.symm, if_pos hi.symm]; exact cb_anti _ _
    · rw [if_pos hk, if_neg hi, if_pos hk.symm, if_neg (Ne.symm hi)]; exact ordI_anti _ _
  · rw [if_neg hk, if_neg (Ne.symm hk)]; exact ordI_anti _ _
theorem ordD_range (k1 i1 : Int) (s1 : ByteArray) (k2 i2 : Int) (s2 : ByteArray) : -1 ≤ ordD k1 i1 s1 k2 i2 s2 ∧ ordD k1 i1 s1 k2 i2 s2 ≤ 1 := by
  unfold ordD
  have c1 := ordI_cases k1 k2
  have c2 := ordI_cases i1 i2
  split
  · split
    · exact cb_range _ _
    · omega
  · omega
theorem ordD_eq (k1 i1 : Int) (s1 : ByteArray) (k2 i2 : Int) (s2 : ByteArray) (h : ordD k1 i1 s1 k2 i2 s2 = 0) : k1 = k2 ∧ i1 = i2 ∧ s1 = s2 := by
  unfold ordD at h
  have c1 := ordI_cases k1 k2
  have c2 := ordI_cases i1 i2
  split at h
  · split at h
    · exact ⟨by assumption, by assumption, ba_eq (cb_eq _ _ h)⟩
    · omega
  · omega
theorem ordD_trans (k1 i1 : Int) (s1 : ByteArray) (k2 i2 : Int) (s2 : ByteArray) (k3 i3 : Int) (s3 : ByteArray) (h : ordD k1 i1 s1 k2 i2 s2 ≤ 0) (h2 : ordD k2 i2 s2 k3 i3 s3 ≤ 0) : ordD k1 i1 s1 k3 i3 s3 ≤ 0 := by
  unfold ordD at *
  have c1 := ordI_cases k1 k2
  have c2 := ordI_cases k2 k3
  have c3 := ordI_cases k1 k3
  have d1 := ordI_cases i1 i2
  have d2 := ordI_cases i2 i3
  have d3 := ordI_cases i1 i3
  by_cases a1 : k1 = k2
  · rw [if_pos a1] at h
    by_cases a2 : k2 = k3
    · rw [if_pos a2] at h2
      rw [if_pos (a1.trans a2)]
      by_cases b1 : i1 = i2
      · rw [if_pos b1] at h
        by_cases b2 : i2 = i3
        · rw [if_pos b2] at h2
          rw [if_pos (b1.trans b2)]
          exact cb_trans _ _ _ h h2
        · rw [if_neg b2] at h2
          rw [if_neg (by omega)]
          omega
      · rw [if_neg b1] at h
        by_cases b2 : i2 = i3
        · rw [if_neg (by omega)]; omega
        · rw [if_neg b2] at h2
          rw [if_neg (by omega)]; omega
    · rw [if_neg a2] at h2
      rw [if_neg (by omega)]; omega
  · rw [if_neg a1] at h
    by_cases a2 : k2 = k3
    · rw [if_neg (by omega)]; omega
    · rw [if_neg a2] at h2
      rw [if_neg (by omega)]; omega

end Go.Proofs.YtippffjhkinfoaaGreatDoor
