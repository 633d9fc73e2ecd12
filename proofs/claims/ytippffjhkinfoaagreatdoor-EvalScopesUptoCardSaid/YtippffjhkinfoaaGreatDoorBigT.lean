/-
  Whole numbers in digits of a million: pure facts about products.
-/
import Derived.Test.YtippffjhkinfoaaGreatDoorBigP
import Derived.Laws.OwnMore
namespace Go.Proofs.YtippffjhkinfoaaGreatDoor

theorem pw_add (m : Nat) : ∀ n, pw (m + n) = pw m * pw n
  | 0 => by simp [pw]
  | n + 1 => by
    rw [← Nat.add_assoc, pw_succ, pw_add m n, pw_succ, ← Int.mul_assoc, ← Int.mul_assoc, Int.mul_comm 1000000 (pw m)]
theorem valD_rep : ∀ n : Nat, valD (List.replicate n 0) = 0
  | 0 => rfl
  | n + 1 => by rw [List.replicate_succ, valD, valD_rep n]; rfl
theorem digOk_rep (n : Nat) : DigOk (List.replicate n 0) := by
  intro d hd
  rw [List.mem_replicate] at hd
  rw [hd.2]; decide
theorem valD_set : ∀ (L : List Int) (k : Nat) (d : Int) (h : k < L.length), valD (L.set k d) = valD L + pw k * (d - L[k])
  | [], k, d, h => by simp at h
  | x :: t, 0, d, h => by rw [List.set_cons_zero, valD, valD, pw]; simp only [List.getElem_cons_zero]; omega
  | x :: t, k + 1, d, h => by
    rw [List.set_cons_succ, valD, valD, valD_set t k d (by simpa using h), pw_succ, List.getElem_cons_succ, Int.mul_add, Int.mul_assoc]
    omega
theorem DigOk.set {L : List Int} (h : DigOk L) (k : Nat) {d : Int} (h0 : 0 ≤ d) (h1 : d < 1000000) : DigOk (L.set k d) := by
  intro x hx
  rcases List.mem_or_eq_of_mem_set hx with hx | hx
  · exact h x hx
  · subst hx; exact ⟨h0, h1⟩

/-- What holds ahead of each carry: what is put in, and the carry at its place, are worth V. -/
def TimInv (V : Int) (N : Nat) (L : List Int) (k : Nat) (c : Int) : Prop := DigOk L ∧ L.length = N ∧ 0 ≤ c ∧ c < 1000000000000 ∧ valD L + pw k * c = V
theorem TimInv.room {V : Int} {N : Nat} {L : List Int} {k : Nat} {c : Int} (h : TimInv V N L k c) (hV : V < pw N) (hc : 0 < c) : k < N := by
  obtain ⟨h1, h2, h3, h4, h5⟩ := h
  rcases Nat.lt_or_ge k N with q | q
  · exact q
  · have h6 := pw_mono q
    have h7 := (valD_bound h1).1
    have h8 : pw k * 1 ≤ pw k * c := Int.mul_le_mul_of_nonneg_left (by omega) (Int.le_of_lt (pw_pos k))
    omega
theorem TimInv.step {V : Int} {N : Nat} {L : List Int} {k : Nat} {c : Int} (h : TimInv V N L k c) (hk : k < L.length) (s : Int) (hs : s = L[k] + c) : TimInv V N (L.set k (s % 1000000)) (k + 1) (s / 1000000) := by
  obtain ⟨h1, h2, h3, h4, h5⟩ := h
  have hd := h1 L[k] (List.getElem_mem hk)
  refine ⟨h1.set k (by omega) (by omega), by rw [List.length_set]; exact h2, by omega, by omega, ?_⟩
  rw [valD_set L k _ hk, pw_succ]
  have e : s = 1000000 * (s / 1000000) + s % 1000000 := by omega
  generalize s / 1000000 = q at e ⊢
  generalize s % 1000000 = r at e ⊢
  have e2 : pw k * (r - L[k]) + 1000000 * pw k * q = pw k * c := by
    have e3 : pw k * (r - L[k]) + 1000000 * pw k * q = pw k * (r - L[k] + 1000000 * q) := by
      rw [Int.mul_add, Int.mul_comm 1000000 (pw k), Int.mul_assoc]
    rw [e3]
    congr 1
    omega
  omega
/-- The products ahead of a pair of places. -/
def prodV (a b : List Int) (i j : Nat) : Int := valD (a.take i) * valD b + pw i * (a[i]?.getD 0) * valD (b.take j)
theorem prodV_zero (a b : List Int) : prodV a b 0 0 = 0 := by simp [prodV, valD]
theorem prodV_next (a b : List Int) (i j : Nat) (hi : i < a.length) (hj : j < b.length) : prodV a b i (j + 1) = prodV a b i j + pw (i + j) * (a[i] * b[j]) := by
  unfold prodV
  rw [valD_succ b j hj, List.getElem?_eq_getElem hi, Option.getD_some, pw_add, Int.mul_add]
  have e : pw i * a[i] * (pw j * b[j]) = pw i * pw j * (a[i] * b[j]) := by
    rw [Int.mul_assoc, Int.mul_assoc]
    congr 1
    rw [← Int.mul_assoc, ← Int.mul_assoc, Int.mul_comm a[i] (pw j)]
  omega
theorem prodV_row (a b : List Int) (i : Nat) (hi : i < a.length) : prodV a b i b.length = prodV a b (i + 1) 0 := by
  unfold prodV
  rw [List.take_length, List.take_zero, valD_succ a i hi, List.getElem?_eq_getElem hi, Option.getD_some, Int.add_mul]
  simp [valD]
theorem prodV_end (a b : List Int) : prodV a b a.length 0 = valD a * valD b := by
  unfold prodV
  rw [List.take_length, List.take_zero]
  simp [valD]
theorem prod_room {a b : List Int} (ha : DigOk a) (hb : DigOk b) : valD a * valD b < pw (a.length + b.length) := by
  have h1 := valD_bound ha
  have h2 := valD_bound hb
  rw [pw_add]
  have h3 : valD a * valD b ≤ valD a * pw b.length := Int.mul_le_mul_of_nonneg_left (by omega) h1.1
  have h4 : valD a * pw b.length < pw a.length * pw b.length := Int.mul_lt_mul_of_pos_right h1.2 (pw_pos _)
  omega
theorem prodV_le {a b : List Int} (ha : DigOk a) (hb : DigOk b) (i j : Nat) (hi : i < a.length) (hj : j ≤ b.length) : prodV a b i j ≤ valD a * valD b := by
  have h1 : prodV a b i j ≤ prodV a b i b.length := by
    unfold prodV
    rw [List.take_length]
    have hd := dig_get ha i
    have h2 := valD_take_le hb j hj
    have h3 : 0 ≤ pw i * (a[i]?.getD 0) := Int.mul_nonneg (Int.le_of_lt (pw_pos i)) hd.1
    have := Int.mul_le_mul_of_nonneg_left h2 h3
    omega
  rw [prodV_row a b i hi] at h1
  have h2 : prodV a b (i + 1) 0 ≤ valD a * valD b := by
    unfold prodV
    rw [List.take_zero]
    have := Int.mul_le_mul_of_nonneg_right (valD_take_le ha (i + 1) hi) (valD_bound hb).1
    simp [valD]
    omega
  omega
theorem prodV_nonneg {a b : List Int} (ha : DigOk a) (hb : DigOk b) (i j : Nat) : 0 ≤ prodV a b i j := by
  unfold prodV
  have h1 := Int.mul_nonneg (valD_bound (ha.take i)).1 (valD_bound hb).1
  have h2 := Int.mul_nonneg (Int.mul_nonneg (Int.le_of_lt (pw_pos i)) (dig_get ha i).1) (valD_bound (hb.take j)).1
  omega
/-- A pair of digits to be put in. -/
theorem TimInv.start {a b L : List Int} {i j : Nat} {k : Nat} (ha : DigOk a) (hb : DigOk b) (hi : i < a.length) (hj : j < b.length) (hk : k = i + j) {N : Nat} (hN : L.length = N) (hL : DigOk L) (hV : valD L = prodV a b i j) :
    TimInv (prodV a b i (j + 1)) N L k (a[i] * b[j]) := by
  have h1 := ha a[i] (List.getElem_mem hi)
  have h2 := hb b[j] (List.getElem_mem hj)
  have h3 : 0 ≤ a[i] * b[j] := Int.mul_nonneg h1.1 h2.1
  have h4 : a[i] * b[j] ≤ 999999 * 999999 := Int.mul_le_mul (by omega) (by omega) h2.1 (by decide)
  refine ⟨hL, hN, h3, by omega, ?_⟩
  rw [prodV_next a b i j hi hj, hV, hk]
theorem TimInv.done {V : Int} {N : Nat} {L : List Int} {k : Nat} (h : TimInv V N L k 0) : DigOk L ∧ L.length = N ∧ valD L = V := by
  obtain ⟨h1, h2, _, _, h5⟩ := h
  exact ⟨h1, h2, by omega⟩

end Go.Proofs.YtippffjhkinfoaaGreatDoor
