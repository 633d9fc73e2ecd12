/-
  Rows of values as plain lists: whether a value may be, its bytes, a row's bytes; and that bytes stand in the order of rows; no conditions but that the values may be.
-/
import Derived.Test.YtippffjhkinfoaaGreatDoorPure
import Derived.Lib.ValidU
namespace Go.Proofs.YtippffjhkinfoaaGreatDoor

structure Dat where
  k : Int
  i : Int
  s : ByteArray

/-- May a value be? -/
def rightD (d : Dat) : Bool :=
  if d.k = 0 then decide (d.i = 0) && decide (d.s.size = 0)
  else if d.k = 1 then (decide (d.i = 0) || decide (d.i = 1)) && decide (d.s.size = 0)
  else if d.k = 2 ∨ d.k = 3 then decide (d.s.size = 0)
  else if d.k = 4 then decide (d.i = 0) && (decide (d.s.size ≤ 1000) && Lib.validD d.s.data.toList)
  else if d.k = 5 then decide (d.i = 0) && decide (d.s.size ≤ 1000)
  else false

def u8 (x : Int) : UInt8 := UInt8.ofNat (x % 256).toNat

theorem u8_toNat (x : Int) (h0 : 0 ≤ x) (h1 : x < 256) : ((u8 x).toNat : Int) = x := by
  unfold u8
  rw [UInt8.toNat_ofNat']
  have : (x % 256).toNat = x.toNat := by rw [Int.emod_eq_of_lt h0 h1]
  rw [this]
  omega

/-- The highest bit turned round, as a number from 0 on. -/
def turned (i : Int) : Nat := (i + 9223372036854775808).toNat

/-- Eight bytes, the highest first. -/
def be8 (n : Nat) : List UInt8 :=
  [UInt8.ofNat (n / 72057594037927936), UInt8.ofNat (n / 281474976710656), UInt8.ofNat (n / 1099511627776), UInt8.ofNat (n / 4294967296),
   UInt8.ofNat (n / 16777216), UInt8.ofNat (n / 65536), UInt8.ofNat (n / 256), UInt8.ofNat n]

def esc : List UInt8 → List UInt8
  | [] => []
  | b :: t => if b = 0 then 0 :: 1 :: esc t else b :: esc t

def bodyD (d : Dat) : List UInt8 :=
  if d.k = 1 then [u8 d.i] else if d.k = 2 ∨ d.k = 3 then be8 (turned d.i) else if d.k = 4 ∨ d.k = 5 then esc d.s.data.toList ++ [0, 0] else []

/-- A value's bytes. -/
def encD (d : Dat) : List UInt8 := u8 (d.k + 1) :: bodyD d

/-- A row's bytes. -/
def encR : List Dat → List UInt8
  | [] => []
  | d :: l => encD d ++ encR l

theorem encR_append : ∀ a b : List Dat, encR (a ++ b) = encR a ++ encR b
  | [], b => rfl
  | d :: a, b => by rw [List.cons_append, encR, encR, encR_append a b, List.append_assoc]

theorem esc_length : ∀ l : List UInt8, (esc l).length ≤ 2 * l.length
  | [] => by simp [esc]
  | b :: t => by
    have := esc_length t
    rw [esc]; split <;> simp <;> omega

theorem rightD_size (d : Dat) (h : rightD d = true) : d.s.size ≤ 1000 := by
  unfold rightD at h
  split at h
  · simp only [Bool.and_eq_true, decide_eq_true_eq] at h; omega
  · split at h
    · simp only [Bool.and_eq_true, Bool.or_eq_true, decide_eq_true_eq] at h; omega
    · split at h
      · simp only [decide_eq_true_eq] at h; omega
      · split at h
        · simp only [Bool.and_eq_true, decide_eq_true_eq] at h; omega
        · split at h
          · simp only [Bool.and_eq_true, decide_eq_true_eq] at h; omega
          · simp at h

theorem encD_length (d : Dat) (h : d.s.size ≤ 1000) : (encD d).length ≤ 2003 := by
  have he := esc_length d.s.data.toList
  have hl : d.s.data.toList.length = d.s.size := by rw [Array.length_toList]; rfl
  unfold encD bodyD
  split
  · simp
  · split
    · simp [be8]
    · split
      · simp; omega
      · simp

theorem encR_length : ∀ l : List Dat, (∀ d ∈ l, rightD d = true) → (encR l).length ≤ 2003 * l.length
  | [], _ => by simp [encR]
  | d :: l, h => by
    have h1 := encD_length d (rightD_size d (h d (by simp)))
    have h2 := encR_length l (fun x hx => h x (by simp [hx]))
    rw [encR]; simp; omega

/-- What datum.Compare answers of two values. -/
def cmpD (a b : Dat) : Int := ordD a.k a.i a.s b.k b.i b.s

/-- What row.Compare answers. -/
def cmpR : List Dat → List Dat → Int
  | [], [] => 0
  | [], _ :: _ => -1
  | _ :: _, [] => 1
  | a :: as, b :: bs => if cmpD a b = 0 then cmpR as bs else cmpD a b

theorem cb_cons (x : UInt8) (s t : List UInt8) : Lib.compareBytes (x :: s) (x :: t) = Lib.compareBytes s t := by
  rw [Lib.compareBytes, if_neg (u8_lt_irrefl x), if_neg (u8_lt_irrefl x)]
theorem cb_app : ∀ p s t : List UInt8, Lib.compareBytes (p ++ s) (p ++ t) = Lib.compareBytes s t
  | [], s, t => rfl
  | x :: p, s, t => by rw [List.cons_append, List.cons_append, cb_cons, cb_app p s t]
theorem cb_lt (x y : UInt8) (s t : List UInt8) (h : x < y) : Lib.compareBytes (x :: s) (y :: t) = -1 := by
  rw [Lib.compareBytes, if_pos h]
theorem cb_gt (x y : UInt8) (s t : List UInt8) (h : y < x) : Lib.compareBytes (x :: s) (y :: t) = 1 := by
  rw [Lib.compareBytes, if_neg (u8_asymm h), if_pos h]

theorem ofNat_lt (a b : Nat) (h : a % 256 < b % 256) : UInt8.ofNat a < UInt8.ofNat b := by
  rw [UInt8.lt_iff_toNat_lt, UInt8.toNat_ofNat', UInt8.toNat_ofNat']; exact h
theorem ofNat_eq (a b : Nat) (h : a % 256 = b % 256) : UInt8.ofNat a = UInt8.ofNat b := by
  apply UInt8.toNat_inj.mp
  rw [UInt8.toNat_ofNat', UInt8.toNat_ofNat']; exact h

theorem cb_step (a b : Nat) (s t : List UInt8) (V : Int) (h1 : a % 256 < b % 256 → V = -1) (h2 : b % 256 < a % 256 → V = 1) (h3 : a % 256 = b % 256 → Lib.compareBytes s t = V) :
    Lib.compareBytes (UInt8.ofNat a :: s) (UInt8.ofNat b :: t) = V := by
  rcases Nat.lt_trichotomy (a % 256) (b % 256) with h | h | h
  · rw [cb_lt _ _ _ _ (ofNat_lt a b h), h1 h]
  · rw [ofNat_eq a b h, cb_cons, h3 h]
  · rw [cb_gt _ _ _ _ (ofNat_lt b a h), h2 h]

/-- Eight bytes stand in the order of the numbers. -/
theorem cb_be8 (m n : Nat) (hm : m < 18446744073709551616) (hn : n < 18446744073709551616) (hne : m ≠ n) (s t : List UInt8) :
    Lib.compareBytes (be8 m ++ s) (be8 n ++ t) = ordI m n := by
  have c := ordI_cases (m : Int) (n : Int)
  unfold be8
  simp only [List.cons_append, List.nil_append]
  refine cb_step _ _ _ _ _ (by omega) (by omega) fun _ => ?_
  refine cb_step _ _ _ _ _ (by omega) (by omega) fun _ => ?_
  refine cb_step _ _ _ _ _ (by omega) (by omega) fun _ => ?_
  refine cb_step _ _ _ _ _ (by omega) (by omega) fun _ => ?_
  refine cb_step _ _ _ _ _ (by omega) (by omega) fun _ => ?_
  refine cb_step _ _ _ _ _ (by omega) (by omega) fun _ => ?_
  refine cb_step _ _ _ _ _ (by omega) (by omega) fun _ => ?_
  refine cb_step _ _ _ _ _ (by omega) (by omega) fun _ => ?_
  exfalso; omega

theorem u8_zero_lt (b : UInt8) (h : b ≠ 0) : (0 : UInt8) < b := by
  rw [UInt8.lt_iff_toNat_lt]
  have : b.toNat ≠ 0 := fun e => h (UInt8.toNat_inj.mp e)
  show 0 < b.toNat
  omega

/-- Texts with their ends stand in the order of the texts. -/
theorem cb_esc : ∀ (a b : List UInt8), a ≠ b → ∀ s t : List UInt8, Lib.compareBytes (esc a ++ (0 :: 0 :: s)) (esc b ++ (0 :: 0 :: t)) = Lib.compareBytes a b
  | [], [], h => absurd rfl h
  | [], y :: b, _ => fun s t => by
    rw [esc, esc, Lib.compareBytes, List.nil_append]
    by_cases hy : y = 0
    · subst hy
      rw [if_pos rfl, List.cons_append, List.cons_append, cb_cons]
      exact cb_lt _ _ _ _ (by decide)
    · rw [if_neg hy, List.cons_append]
      exact cb_lt _ _ _ _ (u8_zero_lt y hy)
  | x :: a, [], _ => fun s t => by
    rw [esc, esc, Lib.compareBytes, List.nil_append]
    by_cases hx : x = 0
    · subst hx
      rw [if_pos rfl, List.cons_append, List.cons_append, cb_cons]
      exact cb_gt _ _ _ _ (by decide)
    · rw [if_neg hx, List.cons_append]
      exact cb_gt _ _ _ _ (u8_zero_lt x hx)
  | x :: a, y :: b, h => fun s t => by
    rw [esc, esc]
    by_cases hxy : x = y
    · subst hxy
      have hab : a ≠ b := fun e => h (by rw [e])
      rw [cb_cons]
      by_cases hx : x = 0
      · rw [if_pos hx, if_pos hx]
        simp only [List.cons_append]
        rw [cb_cons, cb_cons]
        exact cb_esc a b hab s t
      · rw [if_neg hx, if_neg hx]
        simp only [List.cons_append]
        rw [cb_cons]
        exact cb_esc a b hab s t
    · rcases u8_tri x y with h1 | h1 | h1
      · rw [cb_lt x y a b h1]
        by_cases hx : x = 0
        · rw [if_pos hx, if_neg (by rintro rfl; exact hxy hx)]
          subst hx
          exact cb_lt _ _ _ _ h1
        · rw [if_neg hx]
          by_cases hy : y = 0
          · exfalso; subst hy; rw [UInt8.lt_iff_toNat_lt] at h1; exact absurd h1 (Nat.not_lt_zero _)
          · rw [if_neg hy]; exact cb_lt _ _ _ _ h1
      · exact absurd h1 hxy
      · rw [cb_gt x y a b h1]
        by_cases hy : y = 0
        · rw [if_pos hy, if_neg (by rintro rfl; exact hxy hy.symm)]
          subst hy
          exact cb_gt _ _ _ _ h1
        · rw [if_neg hy]
          by_cases hx : x = 0
          · exfalso; subst hx; rw [UInt8.lt_iff_toNat_lt] at h1; exact absurd h1 (Nat.not_lt_zero _)
          · rw [if_neg hx]; exact cb_gt _ _ _ _ h1

/-- The bounds of a value's numbers. -/
def InI (d : Dat) : Prop := -9223372036854775808 ≤ d.i ∧ d.i ≤ 9223372036854775807

theorem rightD_kind (d : Dat) (h : rightD d = true) : 0 ≤ d.k ∧ d.k ≤ 5 := by
  unfold rightD at h
  split at h
  · omega
  · split at h
    · omega
    · split at h
      · omega
      · split at h
        · omega
        · split at h
          · omega
          · simp at h

theorem rightD_bool (d : Dat) (h : rightD d = true) (hk : d.k = 1) : (d.i = 0 ∨ d.i = 1) ∧ d.s.size = 0 := by
  unfold rightD at h
  rw [if_neg (by omega), if_pos hk] at h
  simpa using h
theorem rightD_null (d : Dat) (h : rightD d = true) (hk : d.k = 0) : d.i = 0 ∧ d.s.size = 0 := by
  unfold rightD at h
  rw [if_pos hk] at h
  simpa using h
theorem rightD_num (d : Dat) (h : rightD d = true) (hk : d.k = 2 ∨ d.k = 3) : d.s.size = 0 := by
  unfold rightD at h
  rw [if_neg (by omega), if_neg (by omega), if_pos hk] at h
  simpa using h
theorem rightD_text (d : Dat) (h : rightD d = true) (hk : d.k = 4 ∨ d.k = 5) : d.i = 0 := by
  unfold rightD at h
  rw [if_neg (by omega), if_neg (by omega), if_neg (by omega)] at h
  rcases hk with hk | hk
  · rw [if_pos hk] at h; simp at h; exact h.1
  · rw [if_neg (by omega), if_pos hk] at h; simp at h; exact h.1

theorem ba_empty' {s t : ByteArray} (h : s.size = 0) (h2 : t.size = 0) : s = t := by
  apply ba_eq
  have e1 : s.data.toList = [] := List.eq_nil_of_length_eq_zero (by rw [Array.length_toList]; exact h)
  have e2 : t.data.toList = [] := List.eq_nil_of_length_eq_zero (by rw [Array.length_toList]; exact h2)
  rw [e1, e2]

theorem cmpD_eq (a b : Dat) (h : cmpD a b = 0) : a = b := by
  obtain ⟨h1, h2, h3⟩ := ordD_eq _ _ _ _ _ _ h
  cases a; cases b; simp at h1 h2 h3; simp [h1, h2, h3]

/-- Where two values part their bytes part likewise, whatever stands behind. -/
theorem cb_encD (a b : Dat) (ha : rightD a = true) (hb : rightD b = true) (ia : InI a) (ib : InI b) (hne : cmpD a b ≠ 0) (s t : List UInt8) :
    Lib.compareBytes (encD a ++ s) (encD b ++ t) = cmpD a b := by
  have ka := rightD_kind a ha
  have kb := rightD_kind b hb
  have na := u8_toNat (a.k + 1) (by omega) (by omega)
  have nb := u8_toNat (b.k + 1) (by omega) (by omega)
  unfold encD cmpD ordD
  unfold cmpD ordD at hne
  have ck := ordI_cases a.k b.k
  have ci := ordI_cases a.i b.i
  by_cases hk : a.k = b.k
  · rw [if_pos hk] at hne ⊢
    rw [List.cons_append, List.cons_append, ← hk, cb_cons]
    unfold bodyD
    rw [← hk]
    by_cases k1 : a.k = 1
    · obtain ⟨xa, za⟩ := rightD_bool a ha k1
      obtain ⟨xb, zb⟩ := rightD_bool b hb (by omega)
      rw [if_pos k1, if_pos k1]
      have ma := u8_toNat a.i (by omega) (by omega)
      have mb := u8_toNat b.i (by omega) (by omega)
      by_cases hi : a.i = b.i
      · exfalso
        rw [if_pos hi, ba_empty' za zb, cb_self] at hne
        exact hne rfl
      · rw [if_neg hi, List.cons_append, List.cons_append]
        rcases ci with ⟨h1, h2⟩ | ⟨h1, _⟩ | ⟨h1, h2⟩
        · rw [h2]; exact cb_lt _ _ _ _ (by rw [UInt8.lt_iff_toNat_lt]; omega)
        · exact absurd h1 hi
        · rw [h2]; exact cb_gt _ _ _ _ (by rw [UInt8.lt_iff_toNat_lt]; omega)
    · rw [if_neg k1, if_neg k1]
      by_cases k2 : a.k = 2 ∨ a.k = 3
      · rw [if_pos k2, if_pos k2]
        have za := rightD_num a ha k2
        have zb := rightD_num b hb (by omega)
        by_cases hi : a.i = b.i
        · exfalso
          rw [if_pos hi, ba_empty' za zb, cb_self] at hne
          exact hne rfl
        · rw [if_neg hi]
          unfold InI at ia ib
          rw [cb_be8 (turned a.i) (turned b.i) (by unfold turned; omega) (by unfold turned; omega) (by unfold turned; omega)]
          unfold turned ordI
          split <;> split <;> (try split) <;> omega
      · rw [if_neg k2, if_neg k2]
        by_cases k4 : a.k = 4 ∨ a.k = 5
        · rw [if_pos k4, if_pos k4]
          have xa := rightD_text a ha k4
          have xb := rightD_text b hb (by omega)
          rw [if_pos (by omega)] at hne ⊢
          rw [List.append_assoc, List.append_assoc]
          exact cb_esc _ _ (fun e => hne (by rw [e, cb_self])) _ _
        · exfalso
          have k0 : a.k = 0 := by omega
          obtain ⟨xa, za⟩ := rightD_null a ha k0
          obtain ⟨xb, zb⟩ := rightD_null b hb (by omega)
          rw [if_pos (by omega), ba_empty' za zb, cb_self] at hne
          exact hne rfl
  · rw [if_neg hk] at hne ⊢
    rw [List.cons_append, List.cons_append]
    rcases ck with ⟨h1, h2⟩ | ⟨h1, _⟩ | ⟨h1, h2⟩
    · rw [h2]; exact cb_lt _ _ _ _ (by rw [UInt8.lt_iff_toNat_lt]; omega)
    · exact absurd h1 hk
    · rw [h2]; exact cb_gt _ _ _ _ (by rw [UInt8.lt_iff_toNat_lt]; omega)

/-- Bytes of rows stand in the order of the rows. -/
theorem cb_encR : ∀ (a b : List Dat), (∀ d ∈ a, rightD d = true ∧ InI d) → (∀ d ∈ b, rightD d = true ∧ InI d) → Lib.compareBytes (encR a) (encR b) = cmpR a b
  | [], [], _, _ => by simp [encR, cmpR, Lib.compareBytes]
  | [], b :: bs, _, _ => by simp [encR, cmpR, encD, Lib.compareBytes]
  | a :: as, [], _, _ => by simp [encR, cmpR, encD, Lib.compareBytes]
  | a :: as, b :: bs, ha, hb => by
    rw [encR, encR, cmpR]
    have h1 := ha a (by simp)
    have h2 := hb b (by simp)
    by_cases h : cmpD a b = 0
    · rw [if_pos h, cmpD_eq a b h, cb_app]
      exact cb_encR as bs (fun d hd => ha d (by simp [hd])) (fun d hd => hb d (by simp [hd]))
    · rw [if_neg h]
      exact cb_encD a b h1.1 h2.1 h1.2 h2.2 h _ _

theorem cmpR_range : ∀ a b : List Dat, -1 ≤ cmpR a b ∧ cmpR a b ≤ 1
  | [], [] => by simp [cmpR]
  | [], _ :: _ => by simp [cmpR]
  | _ :: _, [] => by simp [cmpR]
  | a :: as, b :: bs => by
    rw [cmpR]
    have := ordD_range a.k a.i a.s b.k b.i b.s
    split
    · exact cmpR_range as bs
    · exact this

end Go.Proofs.YtippffjhkinfoaaGreatDoor
