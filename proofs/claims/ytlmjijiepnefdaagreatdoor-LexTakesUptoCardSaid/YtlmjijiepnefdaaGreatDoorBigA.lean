/-
  Whole numbers in digits of a million, the lowest first: pure facts.
-/
import Derived.Test.YtlmjijiepnefdaaGreatDoorPure
import Derived.Laws.OwnMore
import Derived.Test.YtlmjijiepnefdaaGreatDoorGen
import Derived.RegionTactic
import Derived.Handy
import Derived.Deep.RegionWith
namespace Go.Proofs.YtlmjijiepnefdaaGreatDoor

/-- The value of digits, the lowest first. -/
def valD : List Int → Int
  | [] => 0
  | d :: t => d + 1000000 * valD t
/-- A million to the power n. -/
def pw : Nat → Int
  | 0 => 1
  | n + 1 => 1000000 * pw n
def DigOk (l : List Int) : Prop := ∀ d ∈ l, 0 ≤ d ∧ d < 1000000
/-- Digits with no nought at the upper end. -/
def Norm (l : List Int) : Prop := DigOk l ∧ ∀ t d, l = t ++ [d] → d ≠ 0

theorem pw_pos : ∀ n, 0 < pw n
  | 0 => by decide
  | n + 1 => by have := pw_pos n; unfold pw; omega
theorem pw_succ (n : Nat) : pw (n + 1) = 1000000 * pw n := rfl
theorem pw_mono {m n : Nat} (h : m ≤ n) : pw m ≤ pw n := by
  induction h with
  | refl => exact Int.le_refl _
  | step _ ih => have := pw_pos m; rw [pw_succ]; omega
theorem valD_app : ∀ (l : List Int) (d : Int), valD (l ++ [d]) = valD l + pw l.length * d
  | [], d => by simp [valD, pw]
  | x :: t, d => by
    rw [List.cons_append, valD, valD_app t d, valD, List.length_cons, pw_succ, Int.mul_add, Int.mul_assoc]
    omega
theorem DigOk.app {l : List Int} (h : DigOk l) {d : Int} (h0 : 0 ≤ d) (h1 : d < 1000000) : DigOk (l ++ [d]) := by
  intro x hx
  rcases List.mem_append.mp hx with hx | hx
  · exact h x hx
  · simp only [List.mem_singleton] at hx; subst hx; exact ⟨h0, h1⟩
theorem DigOk.take {l : List Int} (h : DigOk l) (n : Nat) : DigOk (l.take n) := fun d hd => h d (List.mem_of_mem_take hd)
theorem DigOk.drop {l : List Int} (h : DigOk l) (n : Nat) : DigOk (l.drop n) := fun d hd => h d (List.mem_of_mem_drop hd)
theorem valD_bound : ∀ {l : List Int}, DigOk l → 0 ≤ valD l ∧ valD l < pw l.length
  | [], _ => by simp [valD, pw]
  | x :: t, h => by
    have h1 := valD_bound (l := t) (fun d hd => h d (by simp [hd]))
    have h2 := h x (by simp)
    rw [valD, List.length_cons, pw_succ]
    omega
theorem valD_split : ∀ (l : List Int) (n : Nat), n ≤ l.length → valD l = valD (l.take n) + pw n * valD (l.drop n)
  | l, 0, _ => by simp [valD, pw]
  | [], n + 1, h => by simp at h
  | x :: t, n + 1, h => by
    have := valD_split t n (by simpa using h)
    rw [List.take_succ_cons, List.drop_succ_cons, valD, valD, this, pw_succ, Int.mul_add, Int.mul_assoc]
    omega
theorem valD_succ (l : List Int) (n : Nat) (h : n < l.length) : valD (l.take (n + 1)) = valD (l.take n) + pw n * l[n] := by
  rw [List.take_succ_eq_append_getElem h, valD_app, List.length_take, Nat.min_eq_left (by omega)]
theorem valD_drop (l : List Int) (n : Nat) (h : n < l.length) : valD (l.drop n) = l[n] + 1000000 * valD (l.drop (n + 1)) := by
  rw [List.drop_eq_getElem_cons h, valD]
theorem valD_take_le {l : List Int} (h : DigOk l) (n : Nat) (hn : n ≤ l.length) : valD (l.take n) ≤ valD l := by
  rw [valD_split l n hn]
  have h1 := (valD_bound (h.drop n)).1
  have := Int.mul_nonneg (Int.le_of_lt (pw_pos n)) h1
  omega
theorem valD_drop_le {l : List Int} (h : DigOk l) (n : Nat) (hn : n ≤ l.length) : valD (l.drop n) ≤ valD l := by
  rw [valD_split l n hn]
  have h1 := (valD_bound (h.drop n)).1
  have h2 := (valD_bound (h.take n)).1
  have h3 := pw_pos n
  have : valD (l.drop n) * 1 ≤ pw n * valD (l.drop n) := by
    rw [Int.mul_comm (pw n)]
    exact Int.mul_le_mul_of_nonneg_left (by omega) h1
  omega

theorem Norm.nil : Norm [] := ⟨by intro d hd; simp at hd, by intro t d h; simp at h⟩
/-- Digits with no nought at the upper end are worth what their number says. -/
theorem Norm.low {l : List Int} (h : Norm l) (i : Nat) (hi : i < l.length) : pw i ≤ valD l := by
  obtain ⟨t, d, rfl⟩ : ∃ t d, l = t ++ [d] := by
    rcases List.eq_nil_or_concat l with rfl | ⟨t, d, rfl⟩
    · simp at hi
    · exact ⟨t, d, by simp⟩
  have hd := h.2 t d rfl
  have h1 := h.1 d (by simp)
  have h2 := (valD_bound (l := t) (fun x hx => h.1 x (by simp [hx]))).1
  rw [valD_app]
  have h3 := pw_mono (m := i) (n := t.length) (by simp at hi; omega)
  have h4 := pw_pos t.length
  have : pw t.length * 1 ≤ pw t.length * d := Int.mul_le_mul_of_nonneg_left (by omega) (by omega)
  omega
theorem norm_of {l : List Int} (h : DigOk l) (hl : l = [] ∨ pw (l.length - 1) ≤ valD l) : Norm l := by
  refine ⟨h, ?_⟩
  rintro t d rfl hd
  subst hd
  rcases hl with hl | hl
  · simp at hl
  · rw [valD_app] at hl
    have h2 := (valD_bound (l := t) (fun x hx => h x (by simp [hx]))).2
    simp at hl
    omega
theorem Norm.len_le {a b : List Int} (ha : DigOk a) (hb : Norm b) (h : valD b ≤ valD a) : b.length ≤ a.length := by
  rcases Nat.lt_or_ge a.length b.length with h1 | h1
  · have := hb.low a.length h1
    have := (valD_bound ha).2
    omega
  · exact h1
theorem Norm.len_lt {a b : List Int} (ha : Norm a) (hb : Norm b) (h : a.length < b.length) : valD a < valD b := by
  have := hb.low a.length h
  have := (valD_bound ha.1).2
  omega
theorem Norm.zero {a : List Int} (h : Norm a) : valD a = 0 ↔ a = [] := by
  constructor
  · intro e
    rcases Nat.eq_zero_or_pos a.length with h0 | h0
    · exact List.length_eq_zero_iff.mp h0
    · have := h.low 0 h0
      unfold pw at this; omega
  · rintro rfl; rfl
/-- What stands above a place is the same: the digit at the place decides. -/
theorem valD_digit {a b : List Int} (ha : DigOk a) (hb : DigOk b) (hl : a.length = b.length) (i : Nat) (hi : i < a.length) (hd : a.drop (i + 1) = b.drop (i + 1)) (h : a[i] < b[i]'(hl ▸ hi)) : valD a < valD b := by
  have hib : i < b.length := hl ▸ hi
  rw [valD_split a (i + 1) (by omega), valD_split b (i + 1) (by omega), hd, valD_succ a i hi, valD_succ b i hib]
  have h1 := (valD_bound (ha.take i)).2
  have h2 := (valD_bound (hb.take i)).1
  rw [List.length_take, Nat.min_eq_left (by omega)] at h1
  have h3 := pw_pos i
  have : pw i * (a[i] + 1) ≤ pw i * b[i] := Int.mul_le_mul_of_nonneg_left (by omega) (by omega)
  rw [Int.mul_add] at this
  omega

/-- Adding up: what holds ahead of each digit. -/
def AddInv (a b L : List Int) (c : Int) : Prop := DigOk L ∧ 0 ≤ c ∧ c ≤ 1 ∧ valD L + pw L.length * c = valD (a.take L.length) + valD (b.take L.length) ∧ (L = [] ∨ pw (L.length - 1) ≤ valD a + valD b)
theorem take_get (a : List Int) (n : Nat) : valD (a.take (n + 1)) = valD (a.take n) + pw n * (a[n]?.getD 0) := by
  by_cases h : n < a.length
  · rw [valD_succ a n h, List.getElem?_eq_getElem h, Option.getD_some]
  · rw [List.getElem?_eq_none (by omega), Option.getD_none, List.take_of_length_le (by omega), List.take_of_length_le (by omega)]; omega
theorem dig_get {a : List Int} (h : DigOk a) (n : Nat) : 0 ≤ a[n]?.getD 0 ∧ a[n]?.getD 0 < 1000000 := by
  by_cases hn : n < a.length
  · rw [List.getElem?_eq_getElem hn, Option.getD_some]; exact h _ (List.getElem_mem hn)
  · rw [List.getElem?_eq_none (by omega), Option.getD_none]; decide
theorem AddInv.start (a b : List Int) : AddInv a b [] 0 := ⟨by intro d hd; simp at hd, by decide, by decide, by simp [valD], .inl rfl⟩
theorem AddInv.step {a b L : List Int} {c : Int} (h : AddInv a b L c) (ha : Norm a) (hb : Norm b) (hg : L.length < a.length ∨ L.length < b.length ∨ 0 < c) (s : Int) (hs : s = c + a[L.length]?.getD 0 + b[L.length]?.getD 0) :
    AddInv a b (L ++ [s % 1000000]) (s / 1000000) := by
  obtain ⟨h1, h2, h3, h4, h5⟩ := h
  have da := dig_get ha.1 L.length
  have db := dig_get hb.1 L.length
  have hp := pw_pos L.length
  refine ⟨h1.app (by omega) (by omega), by omega, by omega, ?_, .inr ?_⟩
  · rw [List.length_append, List.length_singleton, take_get, take_get, valD_app, pw_succ]
    have e : s = 1000000 * (s / 1000000) + s % 1000000 := by omega
    generalize s / 1000000 = q at e ⊢
    generalize s % 1000000 = r at e ⊢
    have e2 : pw L.length * s = pw L.length * c + pw L.length * (a[L.length]?.getD 0) + pw L.length * (b[L.length]?.getD 0) := by rw [hs, Int.mul_add, Int.mul_add]
    have e3 : pw L.length * s = 1000000 * pw L.length * q + pw L.length * r := by
      rw [e, Int.mul_add, Int.mul_comm 1000000 (pw L.length), Int.mul_assoc]
    omega
  · rw [List.length_append, List.length_singleton, Nat.add_sub_cancel]
    have va := (valD_bound ha.1).1
    have vb := (valD_bound hb.1).1
    rcases hg with hg | hg | hg
    · have := ha.low _ hg; omega
    · have := hb.low _ hg; omega
    · have ta : valD (a.take L.length) ≤ valD a := by
        rcases Nat.le_total L.length a.length with q | q
        · exact valD_take_le ha.1 _ q
        · rw [List.take_of_length_le q]; exact Int.le_refl _
      have tb : valD (b.take L.length) ≤ valD b := by
        rcases Nat.le_total L.length b.length with q | q
        · exact valD_take_le hb.1 _ q
        · rw [List.take_of_length_le q]; exact Int.le_refl _
      have hL := (valD_bound h1).1
      have : c = 1 := by omega
      rw [this] at h4
      omega
theorem AddInv.done {a b L : List Int} (h : AddInv a b L 0) (ha : a.length ≤ L.length) (hb : b.length ≤ L.length) : Norm L ∧ valD L = valD a + valD b := by
  obtain ⟨h1, _, _, h4, h5⟩ := h
  rw [List.take_of_length_le ha, List.take_of_length_le hb] at h4
  have e : valD L = valD a + valD b := by omega
  exact ⟨norm_of h1 (h5.imp id (fun q => by omega)), e⟩

/-- Taking away: what holds ahead of each digit. -/
def SubInv (a b L : List Int) (c : Int) : Prop := DigOk L ∧ 0 ≤ c ∧ c ≤ 1 ∧ valD L - pw L.length * c = valD (a.take L.length) - valD (b.take L.length)
theorem SubInv.start (a b : List Int) : SubInv a b [] 0 := ⟨by intro d hd; simp at hd, by decide, by decide, by simp [valD]⟩
theorem SubInv.step {a b L : List Int} {c : Int} (h : SubInv a b L c) (ha : DigOk a) (hb : DigOk b) (x y : Int) (hx : x = a[L.length]?.getD 0) (hy : y = c + b[L.length]?.getD 0) :
    SubInv a b (L ++ [if x < y then x + 1000000 - y else x - y]) (if x < y then 1 else 0) := by
  obtain ⟨h1, h2, h3, h4⟩ := h
  have da := dig_get ha L.length
  have db := dig_get hb L.length
  refine ⟨h1.app (by split <;> omega) (by split <;> omega), by split <;> decide, by split <;> decide, ?_⟩
  rw [List.length_append, List.length_singleton, take_get, take_get, valD_app, pw_succ]
  generalize a[L.length]?.getD 0 = p at *
  generalize b[L.length]?.getD 0 = q at *
  subst hx hy
  split
  · have e : pw L.length * (x + 1000000 - (c + q)) = pw L.length * x + pw L.length * 1000000 - (pw L.length * c + pw L.length * q) := by rw [Int.mul_sub, Int.mul_add, Int.mul_add]
    rw [e]; omega
  · have e : pw L.length * (x - (c + q)) = pw L.length * x - (pw L.length * c + pw L.length * q) := by rw [Int.mul_sub, Int.mul_add]
    rw [e]; omega
theorem SubInv.done {a b L : List Int} {c : Int} (h : SubInv a b L c) (ha : a.length = L.length) (hb : b.length ≤ L.length) (hv : valD b ≤ valD a) : DigOk L ∧ valD L = valD a - valD b := by
  obtain ⟨h1, h2, h3, h4⟩ := h
  rw [List.take_of_length_le (by omega), List.take_of_length_le hb] at h4
  have h5 := (valD_bound h1).2
  have : c = 0 := by
    rcases Int.lt_or_le 0 c with q | q
    · have : c = 1 := by omega
      rw [this] at h4; omega
    · omega
  rw [this] at h4
  exact ⟨h1, by omega⟩

/-- A number's digits: what holds ahead of each. -/
def OfInv (N : Int) (L : List Int) (n : Int) : Prop := DigOk L ∧ 0 ≤ n ∧ valD L + pw L.length * n = N ∧ (L = [] ∨ pw (L.length - 1) ≤ N)
theorem OfInv.start (N : Int) (h : 0 ≤ N) : OfInv N [] N := ⟨by intro d hd; simp at hd, h, by simp [valD, pw], .inl rfl⟩
theorem OfInv.step {N : Int} {L : List Int} {n : Int} (h : OfInv N L n) (hn : 0 < n) : OfInv N (L ++ [n % 1000000]) (n / 1000000) := by
  obtain ⟨h1, h2, h3, h4⟩ := h
  have hp := pw_pos L.length
  have hL := (valD_bound h1).1
  have hm : pw L.length * 1 ≤ pw L.length * n := Int.mul_le_mul_of_nonneg_left (by omega) (by omega)
  refine ⟨h1.app (by omega) (by omega), by omega, ?_, .inr ?_⟩
  · rw [List.length_append, List.length_singleton, valD_app, pw_succ]
    have e : n = 1000000 * (n / 1000000) + n % 1000000 := by omega
    generalize n / 1000000 = q at e ⊢
    generalize n % 1000000 = r at e ⊢
    have e3 : pw L.length * n = 1000000 * pw L.length * q + pw L.length * r := by
      rw [e, Int.mul_add, Int.mul_comm 1000000 (pw L.length), Int.mul_assoc]
    omega
  · rw [List.length_append, List.length_singleton, Nat.add_sub_cancel]; omega
theorem OfInv.done {N : Int} {L : List Int} (h : OfInv N L 0) : Norm L ∧ valD L = N := by
  obtain ⟨h1, _, h3, h4⟩ := h
  have : valD L = N := by omega
  exact ⟨norm_of h1 (h4.imp id (fun q => by omega)), this⟩
/-- A number below 2^64 has at most four digits. -/
theorem Norm.len4 {L : List Int} (h : Norm L) (hv : valD L < 1000000000000000000000000) : L.length ≤ 4 := by
  rcases Nat.lt_or_ge 4 L.length with q | q
  · have := h.low 4 q
    have e : pw 4 = 1000000000000000000000000 := by decide
    omega
  · exact q
theorem Norm.len5 {L : List Int} (h : Norm L) (hv : valD L < 1000000000000000000000000000000) : L.length ≤ 5 := by
  rcases Nat.lt_or_ge 5 L.length with q | q
  · have := h.low 5 q
    have e : pw 5 = 1000000000000000000000000000000 := by decide
    omega
  · exact q
/-- Trimming: a nought at the upper end is worth nothing. -/
theorem trim_step {L : List Int} (n : Nat) (hn : n < L.length) (h : L[n] = 0) : valD (L.take (n + 1)) = valD (L.take n) := by
  rw [valD_succ L n hn, h]; omega
theorem trim_norm {L : List Int} (h : DigOk L) (n : Nat) (hn : n ≤ L.length) (hz : n = 0 ∨ ∃ h : n - 1 < L.length, L[n - 1] ≠ 0) : Norm (L.take n) := by
  refine ⟨h.take n, ?_⟩
  intro t d e hd
  subst hd
  have h1 : (L.take n).length = t.length + 1 := by rw [e]; simp
  rw [List.length_take, Nat.min_eq_left hn] at h1
  rcases hz with rfl | ⟨hz, hz2⟩
  · omega
  · have h2 : (L.take n)[n - 1]? = some 0 := by rw [e, List.getElem?_append_right (by omega)]; simp [h1]
    rw [List.getElem?_take, if_pos (by omega), List.getElem?_eq_getElem hz] at h2
    injection h2 with h2
    exact hz2 h2

/-- A whole number: its sign and its amount. -/
def zOf (m : Bool) (l : List Int) : Int := if m then -valD l else valD l

end Go.Proofs.YtlmjijiepnefdaaGreatDoor

/-
  Whole numbers in digits of a million: pure facts about products.
-/
namespace Go.Proofs.YtlmjijiepnefdaaGreatDoor

theorem pw_add (m : Nat) : ∀ n, pw (m + n) = pw m * pw n
  | 0 => by simp [pw]
  | n + 1 => by
    rw [← Nat.add_assoc, pw_succ, pw_add m n, pw_succ, ← Int.mul_assoc, ← Int.mul_assoc, Int.mul_comm 1000000 (pw m)]
theorem valD_rep : ∀ n : Nat, valD (List.replicate n 0) = 0
  | 0 => rfl
  | n + 1 => by rw [List.replicate_succ, valD, valD_rep n]; rfl
theorem digOk_rep (n : Nat) : DigOk (List.replicate n 0) := by
  intro d hd
  rw [List.mem_replicate] at hd
  rw [hd.2]; decide
theorem valD_set : ∀ (L : List Int) (k : Nat) (d : Int) (h : k < L.length), valD (L.set k d) = valD L + pw k * (d - L[k])
  | [], k, d, h => by simp at h
  | x :: t, 0, d, h => by rw [List.set_cons_zero, valD, valD, pw]; simp only [List.getElem_cons_zero]; omega
  | x :: t, k + 1, d, h => by
    rw [List.set_cons_succ, valD, valD, valD_set t k d (by simpa using h), pw_succ, List.getElem_cons_succ, Int.mul_add, Int.mul_assoc]
    omega
theorem DigOk.set {L : List Int} (h : DigOk L) (k : Nat) {d : Int} (h0 : 0 ≤ d) (h1 : d < 1000000) : DigOk (L.set k d) := by
  intro x hx
  rcases List.mem_or_eq_of_mem_set hx with hx | hx
  · exact h x hx
  · subst hx; exact ⟨h0, h1⟩

/-- What holds ahead of each carry: what is put in, and the carry at its place, are worth V. -/
def TimInv (V : Int) (N : Nat) (L : List Int) (k : Nat) (c : Int) : Prop := DigOk L ∧ L.length = N ∧ 0 ≤ c ∧ c < 1000000000000 ∧ valD L + pw k * c = V
theorem TimInv.room {V : Int} {N : Nat} {L : List Int} {k : Nat} {c : Int} (h : TimInv V N L k c) (hV : V < pw N) (hc : 0 < c) : k < N := by
  obtain ⟨h1, h2, h3, h4, h5⟩ := h
  rcases Nat.lt_or_ge k N with q | q
  · exact q
  · have h6 := pw_mono q
    have h7 := (valD_bound h1).1
    have h8 : pw k * 1 ≤ pw k * c := Int.mul_le_mul_of_nonneg_left (by omega) (Int.le_of_lt (pw_pos k))
    omega
theorem TimInv.step {V : Int} {N : Nat} {L : List Int} {k : Nat} {c : Int} (h : TimInv V N L k c) (hk : k < L.length) (s : Int) (hs : s = L[k] + c) : TimInv V N (L.set k (s % 1000000)) (k + 1) (s / 1000000) := by
  obtain ⟨h1, h2, h3, h4, h5⟩ := h
  have hd := h1 L[k] (List.getElem_mem hk)
  refine ⟨h1.set k (by omega) (by omega), by rw [List.length_set]; exact h2, by omega, by omega, ?_⟩
  rw [valD_set L k _ hk, pw_succ]
  have e : s = 1000000 * (s / 1000000) + s % 1000000 := by omega
  generalize s / 1000000 = q at e ⊢
  generalize s % 1000000 = r at e ⊢
  have e2 : pw k * (r - L[k]) + 1000000 * pw k * q = pw k * c := by
    have e3 : pw k * (r - L[k]) + 1000000 * pw k * q = pw k * (r - L[k] + 1000000 * q) := by
      rw [Int.mul_add, Int.mul_comm 1000000 (pw k), Int.mul_assoc]
    rw [e3]
    congr 1
    omega
  omega
/-- The products ahead of a pair of places. -/
def prodV (a b : List Int) (i j : Nat) : Int := valD (a.take i) * valD b + pw i * (a[i]?.getD 0) * valD (b.take j)
theorem prodV_zero (a b : List Int) : prodV a b 0 0 = 0 := by simp [prodV, valD]
theorem prodV_next (a b : List Int) (i j : Nat) (hi : i < a.length) (hj : j < b.length) : prodV a b i (j + 1) = prodV a b i j + pw (i + j) * (a[i] * b[j]) := by
  unfold prodV
  rw [valD_succ b j hj, List.getElem?_eq_getElem hi, Option.getD_some, pw_add, Int.mul_add]
  have e : pw i * a[i] * (pw j * b[j]) = pw i * pw j * (a[i] * b[j]) := by
    rw [Int.mul_assoc, Int.mul_assoc]
    congr 1
    rw [← Int.mul_assoc, ← Int.mul_assoc, Int.mul_comm a[i] (pw j)]
  omega
theorem prodV_row (a b : List Int) (i : Nat) (hi : i < a.length) : prodV a b i b.length = prodV a b (i + 1) 0 := by
  unfold prodV
  rw [List.take_length, List.take_zero, valD_succ a i hi, List.getElem?_eq_getElem hi, Option.getD_some, Int.add_mul]
  simp [valD]
theorem prodV_end (a b : List Int) : prodV a b a.length 0 = valD a * valD b := by
  unfold prodV
  rw [List.take_length, List.take_zero]
  simp [valD]
theorem prod_room {a b : List Int} (ha : DigOk a) (hb : DigOk b) : valD a * valD b < pw (a.length + b.length) := by
  have h1 := valD_bound ha
  have h2 := valD_bound hb
  rw [pw_add]
  have h3 : valD a * valD b ≤ valD a * pw b.length := Int.mul_le_mul_of_nonneg_left (by omega) h1.1
  have h4 : valD a * pw b.length < pw a.length * pw b.length := Int.mul_lt_mul_of_pos_right h1.2 (pw_pos _)
  omega
theorem prodV_le {a b : List Int} (ha : DigOk a) (hb : DigOk b) (i j : Nat) (hi : i < a.length) (hj : j ≤ b.length) : prodV a b i j ≤ valD a * valD b := by
  have h1 : prodV a b i j ≤ prodV a b i b.length := by
    unfold prodV
    rw [List.take_length]
    have hd := dig_get ha i
    have h2 := valD_take_le hb j hj
    have h3 : 0 ≤ pw i * (a[i]?.getD 0) := Int.mul_nonneg (Int.le_of_lt (pw_pos i)) hd.1
    have := Int.mul_le_mul_of_nonneg_left h2 h3
    omega
  rw [prodV_row a b i hi] at h1
  have h2 : prodV a b (i + 1) 0 ≤ valD a * valD b := by
    unfold prodV
    rw [List.take_zero]
    have := Int.mul_le_mul_of_nonneg_right (valD_take_le ha (i + 1) hi) (valD_bound hb).1
    simp [valD]
    omega
  omega
theorem prodV_nonneg {a b : List Int} (ha : DigOk a) (hb : DigOk b) (i j : Nat) : 0 ≤ prodV a b i j := by
  unfold prodV
  have h1 := Int.mul_nonneg (valD_bound (ha.take i)).1 (valD_bound hb).1
  have h2 := Int.mul_nonneg (Int.mul_nonneg (Int.le_of_lt (pw_pos i)) (dig_get ha i).1) (valD_bound (hb.take j)).1
  omega
/-- A pair of digits to be put in. -/
theorem TimInv.start {a b L : List Int} {i j : Nat} {k : Nat} (ha : DigOk a) (hb : DigOk b) (hi : i < a.length) (hj : j < b.length) (hk : k = i + j) {N : Nat} (hN : L.length = N) (hL : DigOk L) (hV : valD L = prodV a b i j) :
    TimInv (prodV a b i (j + 1)) N L k (a[i] * b[j]) := by
  have h1 := ha a[i] (List.getElem_mem hi)
  have h2 := hb b[j] (List.getElem_mem hj)
  have h3 : 0 ≤ a[i] * b[j] := Int.mul_nonneg h1.1 h2.1
  have h4 : a[i] * b[j] ≤ 999999 * 999999 := Int.mul_le_mul (by omega) (by omega) h2.1 (by decide)
  refine ⟨hL, hN, h3, by omega, ?_⟩
  rw [prodV_next a b i j hi hj, hV, hk]
theorem TimInv.done {V : Int} {N : Nat} {L : List Int} {k : Nat} (h : TimInv V N L k 0) : DigOk L ∧ L.length = N ∧ valD L = V := by
  obtain ⟨h1, h2, _, _, h5⟩ := h
  exact ⟨h1, h2, by omega⟩

end Go.Proofs.YtlmjijiepnefdaaGreatDoor

/-
  Blocks that are written to.
-/
namespace Go.Proofs.YtlmjijiepnefdaaGreatDoor
open Go.RowKit

theorem Blk.atB {w : World} {b : Nat} {cs : Array Value} {t : TypeId} (h : b = w.heap.size) : Blk (w.alloc (.cells cs t)) b cs t := h ▸ Blk.new w cs t
theorem Blk.set {w : World} {b : Nat} {cs : Array Value} {t : TypeId} (h : Blk w b cs t) (i : Nat) (u : Value) : Blk (w.setCell ⟨b, i, none⟩ u) b (cs.setIfInBounds i u) t := by
  unfold Blk at h ⊢
  simp [World.setCell, Array.getElem?_modify, h]
theorem Blk.setOther {w : World} {b b' : Nat} {cs : Array Value} {t : TypeId} (h : Blk w b cs t) (hne : b' ≠ b) (i : Nat) (u : Value) : Blk (w.setCell ⟨b', i, none⟩ u) b cs t := by
  unfold Blk at h ⊢
  simp [World.setCell, Array.getElem?_modify, hne, h]
theorem Blk.res2 {w : World} {b : Nat} {u v : Value} {t : TypeId} (h : Blk w b #[u, v] t) (x y : Value) :
    (w.setCell ⟨b, 0, none⟩ x).cell? ⟨b, 0, none⟩ = some x ∧ ((w.setCell ⟨b, 0, none⟩ x).setCell ⟨b, 1, none⟩ y).cell? ⟨b, 1, none⟩ = some y :=
  ⟨(h.set 0 x).cell 0, ((h.set 0 x).set 1 y).cell 1⟩

end Go.Proofs.YtlmjijiepnefdaaGreatDoor

/-
  The reference's whole numbers: contracts.
-/
namespace Go.Proofs.YtlmjijiepnefdaaGreatDoor
open Go.RowKit

def encDig (d : Int) : List Value := [.int .u64 d]
theorem hkD (x : Int) : (encDig x).length = 1 := rfl
abbrev DigV (w : World) (v : Value) (L : List Int) : Prop := ValG encDig 1 w v L
abbrev OwnDig (w : World) (base : Nat) (v : Value) (L : List Int) : Prop := OwnG encDig 1 56 w base v L
theorem info56 : (Tryz.prog.info? 56).map (fun i => (i.zero, i.size, i.bytes)) = some (some (.int .u64 0), 1, 8) := by kernel_rfl

theorem DigV.open {w : World} {v : Value} {L : List Int} (h : DigV w v L) : ∃ A c, v = .slice A L.length c ∧ L.length ≤ c ∧ Hid (L = [] ∨ ∃ b off, A = some ⟨b, off, none⟩ ∧ b < w.heap.size ∧ ∀ k d, L[k]? = some d → w.cell? ⟨b, off + k, none⟩ = some (.int .u64 d)) := by
  rcases h with ⟨rfl, rfl⟩ | ⟨b, off, cap, rfl, _, hb, hat, hc⟩
  · exact ⟨none, 0, rfl, Nat.le_refl _, .inl rfl⟩
  · refine ⟨_, _, rfl, hc, .inr ⟨b, off, rfl, hb, fun k d hk => ?_⟩⟩
    have := hat k d hk 0 _ rfl
    simpa using this

theorem DigV.cut {w w' : World} {A : Option Addr} {c : Nat} {L : List Int} (h : DigV w (.slice A L.length c) L) (n : Nat) (hn : n ≤ L.length) (hb : Below w.heap.size w w') : DigV w' (.slice A n c) (L.take n) := by
  have hl : (L.take n).length = n := by rw [List.length_take]; omega
  rcases h.below hb with ⟨e, rfl⟩ | ⟨b, off, cap, e, hm, hlt, hat, hc⟩
  · injection e with e1 e2 e3
    subst e1 e3
    obtain rfl : n = 0 := by simpa using hn
    exact .inl ⟨rfl, rfl⟩
  · injection e with e1 e2 e3
    subst e1 e3
    refine .inr ⟨b, off, c, by rw [hl], by rw [hl]; omega, hlt, ?_, by rw [hl]; omega⟩
    intro i x hi r u hr
    refine hat i x ?_ r u hr
    rw [List.getElem?_take] at hi
    split at hi
    · exact hi
    · cases hi

set_option maxRecDepth 100000 in
set_option maxHeartbeats 4000000 in
theorem trimmed_any (A : Option Addr) (c : Nat) (L : List Int) (w : World) (hv : DigV w (.slice A L.length c) L) (hd : DigOk L) (hl : L.length ≤ 5000) :
    Calls Tryz.prog 87 #[.agg #[.bool false, .slice A L.length c]] w fun e w' => ∃ n, n ≤ L.length ∧ e = .returned (.agg #[.bool false, .slice A n c]) ∧ Norm (L.take n) ∧ valD (L.take n) = valD L ∧ Below w.heap.size w w' := by
  obtain ⟨A', c', e', hc, HA⟩ := DigV.open hv
  injection e' with e1 _ e3
  subst e1 e3
  clear hv
  have HN := Lib.hid (fun n (h : n ≤ L.length) hz => trim_norm hd n h hz)
  have HS := Lib.hid (fun n (h : n < L.length) hz => trim_step n h hz)
  clear hd
  go_enter Tryz.func87, Tryz.ntmps87
  go_wp2_with fail
  have hb2 := ((Below.refl w.heap.size w).alloc (Nat.le_refl _) (Obj.cells #[Value.bool false, Value.slice A L.length c] 83)).alloc (by simp) (Obj.cells #[Value.bool false, Value.slice none 0 0] 83)
  go_loop [3] (fun n => ∃ k : Nat, k ≤ L.length ∧ n = .int .i64 k ∧ Hid (valD (L.take k) = valD L)) (fun n => (intOf n).toNat)
  case atStart => exact ⟨L.length, Nat.le_refl _, rfl, by unfold Hid; rw [List.take_length]⟩
  case round =>
    obtain ⟨k, hk, rfl, hval⟩ := hrel
    rcases k with _ | k
    · have hn := Lib.hid (HN.out 0 (by omega) (.inl rfl))
      go_wp2_with fail
      go_region
      rename_i K0 hK0 _
      change K0 _ _
      refine hK0 _ _ ?_
      go_wp2
      go_returns
      exact ⟨0, by omega, rfl, hn.out, hval.out, (((Below.refl w.heap.size w).alloc (Nat.le_refl _) _).alloc (by simp) _).drew⟩
    · obtain ⟨b, off, rfl, hbl, hat⟩ := HA.out.resolve_left (by rintro rfl; simp at hk)
      have hc1 := (hb2.cell (p := ⟨b, off + k, none⟩) hbl).trans (hat k L[k] (List.getElem?_eq_getElem (by omega)))
      have hkk : (0 : Int) < (k : Int) + 1 := by omega
      by_cases h0 : L[k] = 0
      · rw [h0] at hc1
        have HS' := Lib.hid (HS.out k (by omega) h0)
        clear hat h0
        go_wp2_with fail
        exact ⟨⟨k, by omega, rfl, by unfold Hid; rw [← HS'.out]; exact hval.out⟩, by simp [intOf]⟩
      · have hn := Lib.hid (HN.out (k + 1) hk (.inr ⟨by omega, h0⟩))
        have h0' : (L[k] == 0) = false := by simpa using h0
        revert hn hc1 h0'
        generalize L[k] = d
        intro hc1 hn h0'
        clear hat h0
        go_wp2_with fail
        go_region
        rename_i K0 hK0 _
        change K0 _ _
        refine hK0 _ _ ?_
        go_wp2
        go_returns
        exact ⟨k + 1, by omega, rfl, hn.out, hval.out, (((Below.refl w.heap.size w).alloc (Nat.le_refl _) _).alloc (by simp) _).drew⟩

/-- Digits in memory of the call's own. -/
def DigB (w : World) (base : Nat) (v : Value) (L : List Int) : Prop := DigV w v L ∧ ∀ b off n c, v = .slice (some ⟨b, off, none⟩) n c → base ≤ b
theorem grown_put (w : World) (h j : Nat) (u : Value) : w.grownBy (w.setCell ⟨h, j, none⟩ u) (some h) :=
  ⟨rfl, rfl, rfl, by simp, fun b _ hne => Below.heap_setCell w ⟨h, j, none⟩ u b (fun e => hne (by rw [e]))⟩
theorem OwnDig.setOther {w : World} {base : Nat} {v : Value} {L : List Int} (h : OwnDig w base v L) {b : Nat} (hb : b < base) (j : Nat) (u : Value) : OwnDig (w.setCell ⟨b, j, none⟩ u) base v L :=
  OwnG.kept h (grown_put w b j u) (by
    right
    intro e
    have := (OwnG.lt h b e).1
    omega)
theorem OwnDig.dig {w : World} {base b0 : Nat} {v : Value} {L : List Int} (h : OwnDig w base v L) (hb : b0 ≤ base) : DigB w b0 v L := by
  refine ⟨OwnG.val hkD h, ?_⟩
  intro b off n c e
  rcases OwnG.shape h with ⟨e', _⟩ | ⟨g, cap, e', hg, _⟩
  · rw [e'] at e; cases e
  · rw [e'] at e
    injection e with e1
    injection e1 with e1
    injection e1 with e1
    omega
theorem DigB.cut {w : World} {base : Nat} {A : Option Addr} {c : Nat} {L : List Int} (h : DigB w base (.slice A L.length c) L) (n : Nat) (hn : n ≤ L.length) : DigB w base (.slice A n c) (L.take n) := by
  refine ⟨h.1.cut n hn (Below.refl _ _), ?_⟩
  intro b off n' c' e
  injection e with e1 _ _
  exact h.2 b off L.length c (by rw [e1])
theorem DigB.below {w w' : World} {base : Nat} {v : Value} {L : List Int} (h : DigB w base v L) (hb : Below w.heap.size w w') : DigB w' base v L := ⟨h.1.below hb, h.2⟩
theorem DigB.more {w : World} {base b0 : Nat} {v : Value} {L : List Int} (h : DigB w base v L) (hb : b0 ≤ base) : DigB w b0 v L := ⟨h.1, fun b off n c e => Nat.le_trans hb (h.2 b off n c e)⟩
theorem DigB.set {w : World} {base b j : Nat} {u v : Value} {L : List Int} (h : DigB w base v L) (hb : b < base) : DigB (w.setCell ⟨b, j, none⟩ u) base v L := by
  refine ⟨?_, h.2⟩
  rcases h.1 with h1 | ⟨b', off, cap, e, hm, hlt, hat, hc⟩
  · exact .inl h1
  · have := h.2 _ _ _ _ e
    exact .inr ⟨b', off, cap, e, hm, by simpa using hlt, AtG.block hat (Below.heap_setCell w ⟨b, j, none⟩ u b' (by simp; omega)), hc⟩
theorem digV_at (w : World) (b : Nat) (d : Int) (h : b = w.heap.size) : DigV (w.alloc (.cells #[.int .u64 d] 56)) (.slice (some ⟨b, 0, none⟩) 1 1) [d] := by
  subst h
  have hb := Blk.new w #[.int .u64 d] 56
  refine .inr ⟨w.heap.size, 0, 1, rfl, (show 1 ≤ maxLen by decide), hb.lt, ?_, Nat.le_refl _⟩
  intro i x hi r u hr
  match i, hi with
  | 0, hi =>
    simp only [List.getElem?_cons_zero, Option.some.injEq] at hi
    subst hi
    have h2 : r < 1 := by have := (List.getElem?_eq_some_iff.mp hr).1; simpa [encDig] using this
    obtain rfl : r = 0 := by omega
    rw [show 0 + 0 * 1 + 0 = 0 by omega, hb.cell]
    simpa [encDig] using hr
  | i + 1, hi => simp at hi
theorem one_dig (d : Int) : ∀ x ∈ [d], ∀ u ∈ encDig x, u.oneCell' = true := by
  intro x hx u hu
  simp only [List.mem_singleton] at hx
  subst hx
  simp only [encDig, List.mem_singleton] at hu
  subst hu
  rfl
theorem own_shape {w : World} {base : Nat} {v : Value} {L : List Int} (h : OwnDig w base v L) : ∃ A c, v = .slice A L.length c := by
  rcases OwnG.shape h with ⟨rfl, rfl⟩ | ⟨g, cap, rfl, _⟩
  · exact ⟨_, _, rfl⟩
  · exact ⟨_, _, rfl⟩

set_option maxRecDepth 100000 in
set_option maxHeartbeats 4000000 in
theorem of_any (i : Int) (w : World) (h0 : -9223372036854775808 ≤ i) (h1 : i ≤ 9223372036854775807) :
    Calls Tryz.prog 67 #[.int .i64 i] w fun e w' => ∃ v' L, e = .returned (.agg #[.bool (decide (i < 0)), v']) ∧ DigB w' w.heap.size v' L ∧ Norm L ∧ valD L = (if i < 0 then -i else i) ∧ Below w.heap.size w w' := by
  obtain ⟨i0, hi, hz0, hz1, hz2⟩ := info_parts info56
  have HI := Lib.hid hi
  have HZ0 := Lib.hid hz0
  have HZ1 := Lib.hid hz1
  have HZ2 := Lib.hid hz2
  clear hi hz0 hz1 hz2
  by_cases hneg : i < 0
  · have hdd : decide (i < 0) = true := decide_eq_true hneg
    rw [hdd, if_pos hneg]
    have HN0 : Hid (IntKind.u64.wrap (-IntKind.u64.wrap i) = -i) := by
      unfold Hid
      simp only [IntKind.wrap, IntKind.bits, IntKind.signed]
      simp
      omega
    go_enter Tryz.func67, Tryz.ntmps67
    go_wp2_with fail
    rw [HN0.out]
    clear HN0
    have hb2 := ((Below.refl w.heap.size w).alloc (Nat.le_refl _) (Obj.cells #[Value.bool false, Value.slice none 0 0] 83)).alloc (by simp) (Obj.cells #[Value.bool true, Value.slice none 0 0] 83)
    have bR := (Blk.new w #[Value.bool false, Value.slice none 0 0] 83).alloc (Obj.cells #[Value.bool true, Value.slice none 0 0] 83)
    have bO : Blk ((w.alloc (Obj.cells #[Value.bool false, Value.slice none 0 0] 83)).alloc (Obj.cells #[Value.bool true, Value.slice none 0 0] 83)) (w.heap.size + 1) #[Value.bool true, Value.slice none 0 0] 83 := Blk.atB (by simp)
    go_loopw [3] (fun n wr => ∃ (L : List Int) (q : Int), n = .int .u64 q ∧ Hid (OfInv (-i) L q) ∧ Below w.heap.size w wr ∧ Blk wr w.heap.size #[.bool false, .slice none 0 0] 83 ∧ ∃ sl, Blk wr (w.heap.size + 1) #[.bool true, sl] 83 ∧ Hid (OwnDig wr (w.heap.size + 2) sl L)) (fun n _ => (intOf n).toNat)
    case atStart => exact ⟨[], -i, rfl, OfInv.start _ (by omega), hb2, bR, _, bO, OwnG.nil 56 _ _⟩
    case round =>
      obtain ⟨L, q, rfl, hinv, hb, bR2, sl, bO2, HO⟩ := hrel
      have hq00 := hinv
      have hq0 : 0 ≤ q := hinv.out.2.1
      clear bR bO
      have hz := bO2.lt
      have c0 := bO2.cell 0
      have c1 := bO2.cell 1
      have f1 := bO2.frozen 1
      simp only [List.getElem?_toArray, List.getElem?_cons_zero, List.getElem?_cons_succ] at c0 c1
      by_cases hq : 0 < q
      · have hnext := Lib.hid (hinv.out.step hq)
        have hL4 : L.length ≤ 4 := by
          have h1 := hinv.out.2.2.2
          rcases h1 with rfl | h1
          · simp
          · rcases Nat.lt_or_ge 4 L.length with q4 | q4
            · have h2 := pw_mono (m := 4) (n := L.length - 1) (by omega)
              have e : pw 4 = 1000000000000000000000000 := by decide
              omega
            · exact q4
        have hqb : q ≤ 9223372036854775808 := by
          have v1 := (valD_bound hinv.out.1).1
          have v2 := hinv.out.2.2.1
          have hm : 1 * q ≤ pw L.length * q := Int.mul_le_mul_of_nonneg_right (pw_pos _) hq0
          omega
        have hwq : IntKind.u64.wrap (q / 1000000) = q / 1000000 := by
          simp only [IntKind.wrap, IntKind.bits, IntKind.signed]
          simp
          omega
        have hqd : 0 ≤ q % 1000000 ∧ q % 1000000 < 1000000 := by omega
        have hqt : q.tdiv 1000000 = q / 1000000 := Int.tdiv_eq_ediv_of_nonneg hq0
        have hqm : q.tmod 1000000 = q % 1000000 := Int.tmod_eq_emod_of_nonneg hq0
        have hqq : 0 ≤ q / 1000000 ∧ q / 1000000 < q := by omega
        have bO7 := bO2.alloc (.cells #[.int .u64 (q % 1000000)] 56)
        have bR7 := bR2.alloc (.cells #[.int .u64 (q % 1000000)] 56)
        have HO7 := Lib.hid (HO.out.alloc (.cells #[.int .u64 (q % 1000000)] 56))
        have HV7 := Lib.hid (digV_at wr wr.heap.size (q % 1000000) rfl)
        have hz7 : w.heap.size + 2 ≤ (wr.alloc (.cells #[.int .u64 (q % 1000000)] 56)).heap.size := by simp; omega
        have hb7 := hb.alloc hb.size (.cells #[.int .u64 (q % 1000000)] 56)
        go_wp2_with (at_builtin; refine wpList_append_g hkD (by decide) 81 56 i0 _ 8 Tryz.underlying81 HI.out HZ0.out HZ1.out HZ2.out rfl _ rfl (.tmp 17) (.tmp 20) rfl (w.heap.size + 2) _ _ L [q % 1000000] rfl rfl HO7.out HV7.out (one_dig _) (by unfold maxLen; simp only [List.length_singleton]; omega) (by simp only [List.length_singleton]; omega) hz7 ?_; intro v8 w8 ho8 hg8; obtain ⟨A8, c8, rfl⟩ := own_shape ho8; have bO8 : Blk w8 (w.heap.size + 1) _ 83 := (hg8.block (w.heap.size + 1) (by simp; omega) (fun e => absurd (OwnG.lt HO7.out _ e.symm).1 (by omega))).trans bO7; have bR8 : Blk w8 w.heap.size _ 83 := (hg8.block w.heap.size (by simp; omega) (fun e => absurd (OwnG.lt HO7.out _ e.symm).1 (by omega))).trans bR7; have d1 := bO8.cell 1; have g1 := bO8.frozen 1; simp only [List.getElem?_toArray, List.getElem?_cons_zero, List.getElem?_cons_succ] at d1)
        refine ⟨⟨L ++ [q % 1000000], q / 1000000, rfl, hnext, ((hb7.trans ((OwnG.grown HO7.out hz7 hg8).mono (by omega))).setCell (by simp) _), bR8.setOther (by omega) _ _, _, by simpa using bO8.set 1 _, OwnDig.setOther (by simpa using ho8) (by omega) _ _⟩, ?_⟩
        simp only [intOf]
        omega
      · obtain rfl : q = 0 := by omega
        have hd := Lib.hid hinv.out.done
        obtain ⟨A, c, rfl⟩ := own_shape HO.out
        have r0 := bR2.cell 0
        have r1 := bR2.cell 1
        have g0 := bR2.frozen 0
        have g1 := bR2.frozen 1
        simp only [List.getElem?_toArray, List.getElem?_cons_zero, List.getElem?_cons_succ] at r0 r1
        clear hinv
        go_wp2_with fail
        have bF := (bR2.set 0 (.bool true)).set 1 (.slice A L.length c)
        have d0 := bF.cell 0
        have d1 := bF.cell 1
        simp only [List.setIfInBounds_toArray, List.set_cons_zero, List.set_cons_succ, List.getElem?_toArray, List.getElem?_cons_zero, List.getElem?_cons_succ] at d0 d1
        refine bodyPost_ret (v := .agg #[.bool true, .slice A L.length c]) (by simp [results, Tryz.results67, go_sem, d0, d1]) rfl ⟨_, rfl, L, ?_, hd.out.1, hd.out.2, ((hb.setCell (by simp) _).setCell (by simp) _)⟩
        exact OwnDig.dig (OwnDig.setOther (OwnDig.setOther HO.out (by omega) _ _) (by omega) _ _) (by omega)
  · have hdd : decide (i < 0) = false := decide_eq_false hneg
    rw [hdd, if_neg hneg]
    have HN0 : Hid (IntKind.u64.wrap i = i) := by
      unfold Hid
      simp only [IntKind.wrap, IntKind.bits, IntKind.signed]
      simp
      omega
    go_enter Tryz.func67, Tryz.ntmps67
    go_wp2_with fail
    skip
    clear HN0
    have hb2 := ((Below.refl w.heap.size w).alloc (Nat.le_refl _) (Obj.cells #[Value.bool false, Value.slice none 0 0] 83)).alloc (by simp) (Obj.cells #[Value.bool false, Value.slice none 0 0] 83)
    have bR := (Blk.new w #[Value.bool false, Value.slice none 0 0] 83).alloc (Obj.cells #[Value.bool false, Value.slice none 0 0] 83)
    have bO : Blk ((w.alloc (Obj.cells #[Value.bool false, Value.slice none 0 0] 83)).alloc (Obj.cells #[Value.bool false, Value.slice none 0 0] 83)) (w.heap.size + 1) #[Value.bool false, Value.slice none 0 0] 83 := Blk.atB (by simp)
    go_loopw [3] (fun n wr => ∃ (L : List Int) (q : Int), n = .int .u64 q ∧ Hid (OfInv (i) L q) ∧ Below w.heap.size w wr ∧ Blk wr w.heap.size #[.bool false, .slice none 0 0] 83 ∧ ∃ sl, Blk wr (w.heap.size + 1) #[.bool false, sl] 83 ∧ Hid (OwnDig wr (w.heap.size + 2) sl L)) (fun n _ => (intOf n).toNat)
    case atStart => exact ⟨[], i, rfl, OfInv.start _ (by omega), hb2, bR, _, bO, OwnG.nil 56 _ _⟩
    case round =>
      obtain ⟨L, q, rfl, hinv, hb, bR2, sl, bO2, HO⟩ := hrel
      have hq00 := hinv
      have hq0 : 0 ≤ q := hinv.out.2.1
      clear bR bO
      have hz := bO2.lt
      have c0 := bO2.cell 0
      have c1 := bO2.cell 1
      have f1 := bO2.frozen 1
      simp only [List.getElem?_toArray, List.getElem?_cons_zero, List.getElem?_cons_succ] at c0 c1
      by_cases hq : 0 < q
      · have hnext := Lib.hid (hinv.out.step hq)
        have hL4 : L.length ≤ 4 := by
          have h1 := hinv.out.2.2.2
          rcases h1 with rfl | h1
          · simp
          · rcases Nat.lt_or_ge 4 L.length with q4 | q4
            · have h2 := pw_mono (m := 4) (n := L.length - 1) (by omega)
              have e : pw 4 = 1000000000000000000000000 := by decide
              omega
            · exact q4
        have hqb : q ≤ 9223372036854775808 := by
          have v1 := (valD_bound hinv.out.1).1
          have v2 := hinv.out.2.2.1
          have hm : 1 * q ≤ pw L.length * q := Int.mul_le_mul_of_nonneg_right (pw_pos _) hq0
          omega
        have hwq : IntKind.u64.wrap (q / 1000000) = q / 1000000 := by
          simp only [IntKind.wrap, IntKind.bits, IntKind.signed]
          simp
          omega
        have hqd : 0 ≤ q % 1000000 ∧ q % 1000000 < 1000000 := by omega
        have hqt : q.tdiv 1000000 = q / 1000000 := Int.tdiv_eq_ediv_of_nonneg hq0
        have hqm : q.tmod 1000000 = q % 1000000 := Int.tmod_eq_emod_of_nonneg hq0
        have hqq : 0 ≤ q / 1000000 ∧ q / 1000000 < q := by omega
        have bO7 := bO2.alloc (.cells #[.int .u64 (q % 1000000)] 56)
        have bR7 := bR2.alloc (.cells #[.int .u64 (q % 1000000)] 56)
        have HO7 := Lib.hid (HO.out.alloc (.cells #[.int .u64 (q % 1000000)] 56))
        have HV7 := Lib.hid (digV_at wr wr.heap.size (q % 1000000) rfl)
        have hz7 : w.heap.size + 2 ≤ (wr.alloc (.cells #[.int .u64 (q % 1000000)] 56)).heap.size := by simp; omega
        have hb7 := hb.alloc hb.size (.cells #[.int .u64 (q % 1000000)] 56)
        go_wp2_with (at_builtin; refine wpList_append_g hkD (by decide) 81 56 i0 _ 8 Tryz.underlying81 HI.out HZ0.out HZ1.out HZ2.out rfl _ rfl (.tmp 17) (.tmp 20) rfl (w.heap.size + 2) _ _ L [q % 1000000] rfl rfl HO7.out HV7.out (one_dig _) (by unfold maxLen; simp only [List.length_singleton]; omega) (by simp only [List.length_singleton]; omega) hz7 ?_; intro v8 w8 ho8 hg8; obtain ⟨A8, c8, rfl⟩ := own_shape ho8; have bO8 : Blk w8 (w.heap.size + 1) _ 83 := (hg8.block (w.heap.size + 1) (by simp; omega) (fun e => absurd (OwnG.lt HO7.out _ e.symm).1 (by omega))).trans bO7; have bR8 : Blk w8 w.heap.size _ 83 := (hg8.block w.heap.size (by simp; omega) (fun e => absurd (OwnG.lt HO7.out _ e.symm).1 (by omega))).trans bR7; have d1 := bO8.cell 1; have g1 := bO8.frozen 1; simp only [List.getElem?_toArray, List.getElem?_cons_zero, List.getElem?_cons_succ] at d1)
        refine ⟨⟨L ++ [q % 1000000], q / 1000000, rfl, hnext, ((hb7.trans ((OwnG.grown HO7.out hz7 hg8).mono (by omega))).setCell (by simp) _), bR8.setOther (by omega) _ _, _, by simpa using bO8.set 1 _, OwnDig.setOther (by simpa using ho8) (by omega) _ _⟩, ?_⟩
        simp only [intOf]
        omega
      · obtain rfl : q = 0 := by omega
        have hd := Lib.hid hinv.out.done
        obtain ⟨A, c, rfl⟩ := own_shape HO.out
        have r0 := bR2.cell 0
        have r1 := bR2.cell 1
        have g0 := bR2.frozen 0
        have g1 := bR2.frozen 1
        simp only [List.getElem?_toArray, List.getElem?_cons_zero, List.getElem?_cons_succ] at r0 r1
        clear hinv
        go_wp2_with fail
        have bF := (bR2.set 0 (.bool false)).set 1 (.slice A L.length c)
        have d0 := bF.cell 0
        have d1 := bF.cell 1
        simp only [List.setIfInBounds_toArray, List.set_cons_zero, List.set_cons_succ, List.getElem?_toArray, List.getElem?_cons_zero, List.getElem?_cons_succ] at d0 d1
        refine bodyPost_ret (v := .agg #[.bool false, .slice A L.length c]) (by simp [results, Tryz.results67, go_sem, d0, d1]) rfl ⟨_, rfl, L, ?_, hd.out.1, hd.out.2, ((hb.setCell (by simp) _).setCell (by simp) _)⟩
        exact OwnDig.dig (OwnDig.setOther (OwnDig.setOther HO.out (by omega) _ _) (by omega) _ _) (by omega)

end Go.Proofs.YtlmjijiepnefdaaGreatDoor

/-
  The reference's whole numbers: sums of amounts.
-/
namespace Go.Proofs.YtlmjijiepnefdaaGreatDoor
open Go.RowKit

theorem get_some (L : List Int) (k : Nat) (x : Int) (h : L[k]? = some x) : L[k]?.getD 0 = x := by rw [h]; rfl
theorem get_none (L : List Int) (k : Nat) (h : L.length ≤ k) : L[k]?.getD 0 = 0 := by rw [List.getElem?_eq_none h]; rfl
theorem wrap_pos (x : Int) (h0 : 0 ≤ x) (h1 : x < 18446744073709551616) : IntKind.u64.wrap x = x := by
  simp only [IntKind.wrap, IntKind.bits, IntKind.signed]
  simp
  omega

set_option maxRecDepth 100000 in
set_option maxHeartbeats 4000000 in
theorem added_any (m1 m2 : Bool) (v1 v2 : Value) (L1 L2 : List Int) (w : World) (h1 : DigV w v1 L1) (h2 : DigV w v2 L2) (n1 : Norm L1) (n2 : Norm L2) (l1 : L1.length ≤ 5000) (l2 : L2.length ≤ 5000) :
    Calls Tryz.prog 84 #[.agg #[.bool m1, v1], .agg #[.bool m2, v2]] w fun e w' => ∃ v' L, e = .returned (.agg #[.bool false, v']) ∧ DigB w' w.heap.size v' L ∧ Norm L ∧ valD L = valD L1 + valD L2 ∧ Below w.heap.size w w' := by
  obtain ⟨i0, hi, hz0, hz1, hz2⟩ := info_parts info56
  have HI := Lib.hid hi
  have HZ0 := Lib.hid hz0
  have HZ1 := Lib.hid hz1
  have HZ2 := Lib.hid hz2
  clear hi hz0 hz1 hz2
  obtain ⟨A1, c1, rfl, hc1, HA1⟩ := DigV.open h1
  obtain ⟨A2, c2, rfl, hc2, HA2⟩ := DigV.open h2
  have N1 := Lib.hid n1
  have N2 := Lib.hid n2
  clear h1 h2 n1 n2
  go_enter Tryz.func84, Tryz.ntmps84
  go_wp2_with fail
  have hb4 := ((((Below.refl w.heap.size w).alloc (Nat.le_refl _) (Obj.cells #[Value.bool m1, Value.slice A1 L1.length c1] 83)).alloc (by simp) (Obj.cells #[Value.bool m2, Value.slice A2 L2.length c2] 83)).alloc (by simp; omega) (Obj.cells #[Value.bool false, Value.slice none 0 0] 83)).alloc (by simp; omega) (Obj.cells #[Value.bool false, Value.slice none 0 0] 83)
  have s1 := (((Blk.new w #[Value.bool m1, Value.slice A1 L1.length c1] 83).alloc (Obj.cells #[Value.bool m2, Value.slice A2 L2.length c2] 83)).alloc (Obj.cells #[Value.bool false, Value.slice none 0 0] 83)).alloc (Obj.cells #[Value.bool false, Value.slice none 0 0] 83)
  have s2 := ((Blk.atB (w := w.alloc (Obj.cells #[Value.bool m1, Value.slice A1 L1.length c1] 83)) (b := w.heap.size + 1) (cs := #[Value.bool m2, Value.slice A2 L2.length c2]) (t := 83) (by simp)).alloc (Obj.cells #[Value.bool false, Value.slice none 0 0] 83)).alloc (Obj.cells #[Value.bool false, Value.slice none 0 0] 83)
  have s3 := (Blk.atB (w := (w.alloc (Obj.cells #[Value.bool m1, Value.slice A1 L1.length c1] 83)).alloc (Obj.cells #[Value.bool m2, Value.slice A2 L2.length c2] 83)) (b := w.heap.size + 1 + 1) (cs := #[Value.bool false, Value.slice none 0 0]) (t := 83) (by simp)).alloc (Obj.cells #[Value.bool false, Value.slice none 0 0] 83)
  have s4 := Blk.atB (w := ((w.alloc (Obj.cells #[Value.bool m1, Value.slice A1 L1.length c1] 83)).alloc (Obj.cells #[Value.bool m2, Value.slice A2 L2.length c2] 83)).alloc (Obj.cells #[Value.bool false, Value.slice none 0 0] 83)) (b := w.heap.size + 1 + 1 + 1) (cs := #[Value.bool false, Value.slice none 0 0]) (t := 83) (by simp)
  go_loopw [6, 7] (fun q n wr => ∃ (L : List Int) (c : Int), q = .int .u64 c ∧ n = .int .i64 (L.length : Int) ∧ Hid (AddInv L1 L2 L c) ∧ Hid (L.length ≤ 5000 ∨ (c = 0 ∧ L.length = 5001)) ∧ Below w.heap.size w wr ∧ Blk wr w.heap.size #[Value.bool m1, Value.slice A1 L1.length c1] 83 ∧ Blk wr (w.heap.size + 1) #[Value.bool m2, Value.slice A2 L2.length c2] 83 ∧ Blk wr (w.heap.size + 1 + 1) #[.bool false, .slice none 0 0] 83 ∧ ∃ sl, Blk wr (w.heap.size + 1 + 1 + 1) #[.bool false, sl] 83 ∧ Hid (OwnDig wr (w.heap.size + 1 + 1 + 1 + 1) sl L)) (fun q n _ => 10000 - (intOf n).toNat)
  case atStart => exact ⟨[], 0, rfl, rfl, AddInv.start _ _, .inl (by simp), hb4, s1, s2, s3, _, s4, OwnG.nil 56 _ _⟩
  case round =>
    obtain ⟨L, c, rfl, rfl, hinv, HL, hb, b1, b2, bR, sl, bO, HO⟩ := hrel
    clear s1 s2 s3 s4 hb4
    have hz := bO.lt
    have hL : L.length ≤ 5001 := by rcases HL.out with h | ⟨_, h⟩ <;> omega
    have hcc : 0 ≤ c ∧ c ≤ 1 := ⟨hinv.out.2.1, hinv.out.2.2.1⟩
    have x0 := b1.cell 0
    have x1 := b1.cell 1
    have y0 := b2.cell 0
    have y1 := b2.cell 1
    have c0 := bO.cell 0
    have c1' := bO.cell 1
    simp only [List.getElem?_toArray, List.getElem?_cons_zero, List.getElem?_cons_succ] at x0 x1 y0 y1 c0 c1'
    by_cases hk1 : L.length < L1.length
    · by_cases hk2 : L.length < L2.length
      · skip
        obtain ⟨q1, o1, rfl, hq1, hat1⟩ := HA1.out.resolve_left (by rintro rfl; simp at hk1)
        have hd1 := N1.out.1 L1[L.length] (List.getElem_mem hk1)
        have HG1 := Lib.hid (get_some L1 L.length L1[L.length] (List.getElem?_eq_getElem hk1))
        have e1 := (hb.cell (p := ⟨q1, o1 + L.length, none⟩) hq1).trans (hat1 L.length L1[L.length] (List.getElem?_eq_getElem hk1))
        clear hat1
        revert hd1 HG1 e1
        generalize L1[L.length] = x
        intro hd1 HG1 e1
        obtain ⟨q2, o2, rfl, hq2, hat2⟩ := HA2.out.resolve_left (by rintro rfl; simp at hk2)
        have hd2 := N2.out.1 L2[L.length] (List.getElem_mem hk2)
        have HG2 := Lib.hid (get_some L2 L.length L2[L.length] (List.getElem?_eq_getElem hk2))
        have e2 := (hb.cell (p := ⟨q2, o2 + L.length, none⟩) hq2).trans (hat2 L.length L2[L.length] (List.getElem?_eq_getElem hk2))
        clear hat2
        revert hd2 HG2 e2
        generalize L2[L.length] = y
        intro hd2 HG2 e2
        have hnext := Lib.hid (hinv.out.step N1.out N2.out (.inl hk1) (c + x + y) (by rw [HG1.out, HG2.out]; try omega))
        have hs0 : 0 ≤ c + x + y ∧ c + x + y < 2000000 := by omega
        have HW := Lib.hid (wrap_pos (c + x + y) (by omega) (by omega))
        have HO7 := Lib.hid (HO.out.alloc (.cells #[.int .u64 ((c + x + y) % 1000000)] 56))
        have HV7 := Lib.hid (digV_at wr wr.heap.size ((c + x + y) % 1000000) rfl)
        have hz7 : w.heap.size + 1 + 1 + 1 + 1 ≤ (wr.alloc (.cells #[.int .u64 ((c + x + y) % 1000000)] 56)).heap.size := by have := hb.size; simp; omega
        have hb7 := hb.alloc hb.size (.cells #[.int .u64 ((c + x + y) % 1000000)] 56)
        go_wp2_with (at_builtin; refine wpList_append_g hkD (by decide) 81 56 i0 _ 8 Tryz.underlying81 HI.out HZ0.out HZ1.out HZ2.out rfl _ rfl (.tmp 52) (.tmp 55) rfl (w.heap.size + 1 + 1 + 1 + 1) _ _ L [(c + x + y) % 1000000] rfl rfl HO7.out HV7.out (one_dig _) (by unfold maxLen; simp only [List.length_singleton]; omega) (by simp only [List.length_singleton]; omega) hz7 ?_; intro v8 w8 ho8 hg8; obtain ⟨A8, c8, rfl⟩ := own_shape ho8; have bb1 : Blk w8 w.heap.size _ 83 := (hg8.block w.heap.size (by simp; omega) (fun e => absurd (OwnG.lt HO7.out _ e.symm).1 (by omega))).trans (b1.alloc _); have bb2 : Blk w8 (w.heap.size + 1) _ 83 := (hg8.block (w.heap.size + 1) (by simp; omega) (fun e => absurd (OwnG.lt HO7.out _ e.symm).1 (by omega))).trans (b2.alloc _); have bbR : Blk w8 (w.heap.size + 1 + 1) _ 83 := (hg8.block (w.heap.size + 1 + 1) (by simp; omega) (fun e => absurd (OwnG.lt HO7.out _ e.symm).1 (by omega))).trans (bR.alloc _); have bbO : Blk w8 (w.heap.size + 1 + 1 + 1) _ 83 := (hg8.block (w.heap.size + 1 + 1 + 1) (by simp; omega) (fun e => absurd (OwnG.lt HO7.out _ e.symm).1 (by omega))).trans (bO.alloc _); have d1 := bbO.cell 1; have g1 := bbO.frozen 1; simp only [List.getElem?_toArray, List.getElem?_cons_zero, List.getElem?_cons_succ] at d1)
        refine ⟨⟨L ++ [(c + x + y) % 1000000], (c + x + y) / 1000000, rfl, by simp, hnext, (.inl (by simp; omega)), ((hb7.trans ((OwnG.grown HO7.out hz7 hg8).mono (by omega))).setCell (by simp; omega) _), bb1.setOther (by omega) _ _, bb2.setOther (by omega) _ _, bbR.setOther (by omega) _ _, _, by simpa using bbO.set 1 _, OwnDig.setOther (by simpa using ho8) (by omega) _ _⟩, ?_⟩
        simp [intOf]
        omega
      · skip
        obtain ⟨q1, o1, rfl, hq1, hat1⟩ := HA1.out.resolve_left (by rintro rfl; simp at hk1)
        have hd1 := N1.out.1 L1[L.length] (List.getElem_mem hk1)
        have HG1 := Lib.hid (get_some L1 L.length L1[L.length] (List.getElem?_eq_getElem hk1))
        have e1 := (hb.cell (p := ⟨q1, o1 + L.length, none⟩) hq1).trans (hat1 L.length L1[L.length] (List.getElem?_eq_getElem hk1))
        clear hat1
        revert hd1 HG1 e1
        generalize L1[L.length] = x
        intro hd1 HG1 e1
        have HG2 := Lib.hid (get_none L2 L.length (by omega))
        have hnext := Lib.hid (hinv.out.step N1.out N2.out (.inl hk1) (c + x) (by rw [HG1.out, HG2.out]; try omega))
        have hs0 : 0 ≤ c + x ∧ c + x < 2000000 := by omega
        have HW := Lib.hid (wrap_pos (c + x) (by omega) (by omega))
        have HO7 := Lib.hid (HO.out.alloc (.cells #[.int .u64 ((c + x) % 1000000)] 56))
        have HV7 := Lib.hid (digV_at wr wr.heap.size ((c + x) % 1000000) rfl)
        have hz7 : w.heap.size + 1 + 1 + 1 + 1 ≤ (wr.alloc (.cells #[.int .u64 ((c + x) % 1000000)] 56)).heap.size := by have := hb.size; simp; omega
        have hb7 := hb.alloc hb.size (.cells #[.int .u64 ((c + x) % 1000000)] 56)
        go_wp2_with (at_builtin; refine wpList_append_g hkD (by decide) 81 56 i0 _ 8 Tryz.underlying81 HI.out HZ0.out HZ1.out HZ2.out rfl _ rfl (.tmp 52) (.tmp 55) rfl (w.heap.size + 1 + 1 + 1 + 1) _ _ L [(c + x) % 1000000] rfl rfl HO7.out HV7.out (one_dig _) (by unfold maxLen; simp only [List.length_singleton]; omega) (by simp only [List.length_singleton]; omega) hz7 ?_; intro v8 w8 ho8 hg8; obtain ⟨A8, c8, rfl⟩ := own_shape ho8; have bb1 : Blk w8 w.heap.size _ 83 := (hg8.block w.heap.size (by simp; omega) (fun e => absurd (OwnG.lt HO7.out _ e.symm).1 (by omega))).trans (b1.alloc _); have bb2 : Blk w8 (w.heap.size + 1) _ 83 := (hg8.block (w.heap.size + 1) (by simp; omega) (fun e => absurd (OwnG.lt HO7.out _ e.symm).1 (by omega))).trans (b2.alloc _); have bbR : Blk w8 (w.heap.size + 1 + 1) _ 83 := (hg8.block (w.heap.size + 1 + 1) (by simp; omega) (fun e => absurd (OwnG.lt HO7.out _ e.symm).1 (by omega))).trans (bR.alloc _); have bbO : Blk w8 (w.heap.size + 1 + 1 + 1) _ 83 := (hg8.block (w.heap.size + 1 + 1 + 1) (by simp; omega) (fun e => absurd (OwnG.lt HO7.out _ e.symm).1 (by omega))).trans (bO.alloc _); have d1 := bbO.cell 1; have g1 := bbO.frozen 1; simp only [List.getElem?_toArray, List.getElem?_cons_zero, List.getElem?_cons_succ] at d1)
        refine ⟨⟨L ++ [(c + x) % 1000000], (c + x) / 1000000, rfl, by simp, hnext, (.inl (by simp; omega)), ((hb7.trans ((OwnG.grown HO7.out hz7 hg8).mono (by omega))).setCell (by simp; omega) _), bb1.setOther (by omega) _ _, bb2.setOther (by omega) _ _, bbR.setOther (by omega) _ _, _, by simpa using bbO.set 1 _, OwnDig.setOther (by simpa using ho8) (by omega) _ _⟩, ?_⟩
        simp [intOf]
        omega
    · by_cases hk2 : L.length < L2.length
      · skip
        have HG1 := Lib.hid (get_none L1 L.length (by omega))
        obtain ⟨q2, o2, rfl, hq2, hat2⟩ := HA2.out.resolve_left (by rintro rfl; simp at hk2)
        have hd2 := N2.out.1 L2[L.length] (List.getElem_mem hk2)
        have HG2 := Lib.hid (get_some L2 L.length L2[L.length] (List.getElem?_eq_getElem hk2))
        have e2 := (hb.cell (p := ⟨q2, o2 + L.length, none⟩) hq2).trans (hat2 L.length L2[L.length] (List.getElem?_eq_getElem hk2))
        clear hat2
        revert hd2 HG2 e2
        generalize L2[L.length] = y
        intro hd2 HG2 e2
        have hnext := Lib.hid (hinv.out.step N1.out N2.out (.inr (.inl hk2)) (c + y) (by rw [HG1.out, HG2.out]; try omega))
        have hs0 : 0 ≤ c + y ∧ c + y < 2000000 := by omega
        have HW := Lib.hid (wrap_pos (c + y) (by omega) (by omega))
        have HO7 := Lib.hid (HO.out.alloc (.cells #[.int .u64 ((c + y) % 1000000)] 56))
        have HV7 := Lib.hid (digV_at wr wr.heap.size ((c + y) % 1000000) rfl)
        have hz7 : w.heap.size + 1 + 1 + 1 + 1 ≤ (wr.alloc (.cells #[.int .u64 ((c + y) % 1000000)] 56)).heap.size := by have := hb.size; simp; omega
        have hb7 := hb.alloc hb.size (.cells #[.int .u64 ((c + y) % 1000000)] 56)
        go_wp2_with (at_builtin; refine wpList_append_g hkD (by decide) 81 56 i0 _ 8 Tryz.underlying81 HI.out HZ0.out HZ1.out HZ2.out rfl _ rfl (.tmp 52) (.tmp 55) rfl (w.heap.size + 1 + 1 + 1 + 1) _ _ L [(c + y) % 1000000] rfl rfl HO7.out HV7.out (one_dig _) (by unfold maxLen; simp only [List.length_singleton]; omega) (by simp only [List.length_singleton]; omega) hz7 ?_; intro v8 w8 ho8 hg8; obtain ⟨A8, c8, rfl⟩ := own_shape ho8; have bb1 : Blk w8 w.heap.size _ 83 := (hg8.block w.heap.size (by simp; omega) (fun e => absurd (OwnG.lt HO7.out _ e.symm).1 (by omega))).trans (b1.alloc _); have bb2 : Blk w8 (w.heap.size + 1) _ 83 := (hg8.block (w.heap.size + 1) (by simp; omega) (fun e => absurd (OwnG.lt HO7.out _ e.symm).1 (by omega))).trans (b2.alloc _); have bbR : Blk w8 (w.heap.size + 1 + 1) _ 83 := (hg8.block (w.heap.size + 1 + 1) (by simp; omega) (fun e => absurd (OwnG.lt HO7.out _ e.symm).1 (by omega))).trans (bR.alloc _); have bbO : Blk w8 (w.heap.size + 1 + 1 + 1) _ 83 := (hg8.block (w.heap.size + 1 + 1 + 1) (by simp; omega) (fun e => absurd (OwnG.lt HO7.out _ e.symm).1 (by omega))).trans (bO.alloc _); have d1 := bbO.cell 1; have g1 := bbO.frozen 1; simp only [List.getElem?_toArray, List.getElem?_cons_zero, List.getElem?_cons_succ] at d1)
        refine ⟨⟨L ++ [(c + y) % 1000000], (c + y) / 1000000, rfl, by simp, hnext, (.inl (by simp; omega)), ((hb7.trans ((OwnG.grown HO7.out hz7 hg8).mono (by omega))).setCell (by simp; omega) _), bb1.setOther (by omega) _ _, bb2.setOther (by omega) _ _, bbR.setOther (by omega) _ _, _, by simpa using bbO.set 1 _, OwnDig.setOther (by simpa using ho8) (by omega) _ _⟩, ?_⟩
        simp [intOf]
        omega
      · by_cases hcp : 0 < c
        · skip
          have HG1 := Lib.hid (get_none L1 L.length (by omega))
          have HG2 := Lib.hid (get_none L2 L.length (by omega))
          have hnext := Lib.hid (hinv.out.step N1.out N2.out (.inr (.inr hcp)) (c) (by rw [HG1.out, HG2.out]; try omega))
          have hs0 : 0 ≤ c ∧ c < 2000000 := by omega
          have HW := Lib.hid (wrap_pos (c) (by omega) (by omega))
          have HO7 := Lib.hid (HO.out.alloc (.cells #[.int .u64 ((c) % 1000000)] 56))
          have HV7 := Lib.hid (digV_at wr wr.heap.size ((c) % 1000000) rfl)
          have hz7 : w.heap.size + 1 + 1 + 1 + 1 ≤ (wr.alloc (.cells #[.int .u64 ((c) % 1000000)] 56)).heap.size := by have := hb.size; simp; omega
          have hb7 := hb.alloc hb.size (.cells #[.int .u64 ((c) % 1000000)] 56)
          go_wp2_with (at_builtin; refine wpList_append_g hkD (by decide) 81 56 i0 _ 8 Tryz.underlying81 HI.out HZ0.out HZ1.out HZ2.out rfl _ rfl (.tmp 52) (.tmp 55) rfl (w.heap.size + 1 + 1 + 1 + 1) _ _ L [(c) % 1000000] rfl rfl HO7.out HV7.out (one_dig _) (by unfold maxLen; simp only [List.length_singleton]; omega) (by simp only [List.length_singleton]; omega) hz7 ?_; intro v8 w8 ho8 hg8; obtain ⟨A8, c8, rfl⟩ := own_shape ho8; have bb1 : Blk w8 w.heap.size _ 83 := (hg8.block w.heap.size (by simp; omega) (fun e => absurd (OwnG.lt HO7.out _ e.symm).1 (by omega))).trans (b1.alloc _); have bb2 : Blk w8 (w.heap.size + 1) _ 83 := (hg8.block (w.heap.size + 1) (by simp; omega) (fun e => absurd (OwnG.lt HO7.out _ e.symm).1 (by omega))).trans (b2.alloc _); have bbR : Blk w8 (w.heap.size + 1 + 1) _ 83 := (hg8.block (w.heap.size + 1 + 1) (by simp; omega) (fun e => absurd (OwnG.lt HO7.out _ e.symm).1 (by omega))).trans (bR.alloc _); have bbO : Blk w8 (w.heap.size + 1 + 1 + 1) _ 83 := (hg8.block (w.heap.size + 1 + 1 + 1) (by simp; omega) (fun e => absurd (OwnG.lt HO7.out _ e.symm).1 (by omega))).trans (bO.alloc _); have d1 := bbO.cell 1; have g1 := bbO.frozen 1; simp only [List.getElem?_toArray, List.getElem?_cons_zero, List.getElem?_cons_succ] at d1)
          refine ⟨⟨L ++ [(c) % 1000000], (c) / 1000000, rfl, by simp, hnext, (by have := HL.out; unfold Hid; simp only [List.length_append, List.length_singleton]; omega), ((hb7.trans ((OwnG.grown HO7.out hz7 hg8).mono (by omega))).setCell (by simp; omega) _), bb1.setOther (by omega) _ _, bb2.setOther (by omega) _ _, bbR.setOther (by omega) _ _, _, by simpa using bbO.set 1 _, OwnDig.setOther (by simpa using ho8) (by omega) _ _⟩, ?_⟩
          simp [intOf]
          omega
        · obtain rfl : c = 0 := by omega
          have hd := Lib.hid (hinv.out.done (by omega) (by omega))
          obtain ⟨A, q, rfl⟩ := own_shape HO.out
          have r0 := bR.cell 0
          have r1 := bR.cell 1
          have g0 := bR.frozen 0
          have g1 := bR.frozen 1
          simp only [List.getElem?_toArray, List.getElem?_cons_zero, List.getElem?_cons_succ] at r0 r1
          clear hinv
          go_wp2_with fail
          have bF := (bR.set 0 (.bool false)).set 1 (.slice A L.length q)
          have d0 := bF.cell 0
          have d1 := bF.cell 1
          simp only [List.setIfInBounds_toArray, List.set_cons_zero, List.set_cons_succ, List.getElem?_toArray, List.getElem?_cons_zero, List.getElem?_cons_succ] at d0 d1
          refine bodyPost_ret (v := .agg #[.bool false, .slice A L.length q]) (by simp [results, Tryz.results84, go_sem, d0, d1]) rfl ⟨_, rfl, L, ?_, hd.out.1, hd.out.2, ((hb.setCell (by simp; omega) _).setCell (by simp; omega) _)⟩
          exact OwnDig.dig (OwnDig.setOther (OwnDig.setOther HO.out (by omega) _ _) (by omega) _ _) (by omega)
end Go.Proofs.YtlmjijiepnefdaaGreatDoor

/-
  The reference's whole numbers: differences of amounts.
-/
namespace Go.Proofs.YtlmjijiepnefdaaGreatDoor
open Go.RowKit

set_option maxRecDepth 100000 in
set_option maxHeartbeats 4000000 in
theorem less_any (m1 m2 : Bool) (v1 v2 : Value) (L1 L2 : List Int) (w : World) (h1 : DigV w v1 L1) (h2 : DigV w v2 L2) (n1 : DigOk L1) (n2 : DigOk L2) (l1 : L1.length ≤ 5000) (l2 : L2.length ≤ L1.length) (hv : valD L2 ≤ valD L1) :
    Calls Tryz.prog 86 #[.agg #[.bool m1, v1], .agg #[.bool m2, v2]] w fun e w' => ∃ v' L, e = .returned (.agg #[.bool false, v']) ∧ DigB w' w.heap.size v' L ∧ Norm L ∧ valD L = valD L1 - valD L2 ∧ Below w.heap.size w w' := by
  obtain ⟨i0, hi, hz0, hz1, hz2⟩ := info_parts info56
  have HI := Lib.hid hi
  have HZ0 := Lib.hid hz0
  have HZ1 := Lib.hid hz1
  have HZ2 := Lib.hid hz2
  clear hi hz0 hz1 hz2
  obtain ⟨A1, c1, rfl, hc1, HA1⟩ := DigV.open h1
  obtain ⟨A2, c2, rfl, hc2, HA2⟩ := DigV.open h2
  have N1 := Lib.hid n1
  have N2 := Lib.hid n2
  have HVV := Lib.hid hv
  clear h1 h2 n1 n2 hv
  go_enter Tryz.func86, Tryz.ntmps86
  go_wp2_with fail
  have hb4 := ((((Below.refl w.heap.size w).alloc (Nat.le_refl _) (Obj.cells #[Value.bool m1, Value.slice A1 L1.length c1] 83)).alloc (by simp) (Obj.cells #[Value.bool m2, Value.slice A2 L2.length c2] 83)).alloc (by simp; omega) (Obj.cells #[Value.bool false, Value.slice none 0 0] 83)).alloc (by simp; omega) (Obj.cells #[Value.bool false, Value.slice none 0 0] 83)
  have s1 := (((Blk.new w #[Value.bool m1, Value.slice A1 L1.length c1] 83).alloc (Obj.cells #[Value.bool m2, Value.slice A2 L2.length c2] 83)).alloc (Obj.cells #[Value.bool false, Value.slice none 0 0] 83)).alloc (Obj.cells #[Value.bool false, Value.slice none 0 0] 83)
  have s2 := ((Blk.atB (w := w.alloc (Obj.cells #[Value.bool m1, Value.slice A1 L1.length c1] 83)) (b := w.heap.size + 1) (cs := #[Value.bool m2, Value.slice A2 L2.length c2]) (t := 83) (by simp)).alloc (Obj.cells #[Value.bool false, Value.slice none 0 0] 83)).alloc (Obj.cells #[Value.bool false, Value.slice none 0 0] 83)
  have s3 := (Blk.atB (w := (w.alloc (Obj.cells #[Value.bool m1, Value.slice A1 L1.length c1] 83)).alloc (Obj.cells #[Value.bool m2, Value.slice A2 L2.length c2] 83)) (b := w.heap.size + 1 + 1) (cs := #[Value.bool false, Value.slice none 0 0]) (t := 83) (by simp)).alloc (Obj.cells #[Value.bool false, Value.slice none 0 0] 83)
  have s4 := Blk.atB (w := ((w.alloc (Obj.cells #[Value.bool m1, Value.slice A1 L1.length c1] 83)).alloc (Obj.cells #[Value.bool m2, Value.slice A2 L2.length c2] 83)).alloc (Obj.cells #[Value.bool false, Value.slice none 0 0] 83)) (b := w.heap.size + 1 + 1 + 1) (cs := #[Value.bool false, Value.slice none 0 0]) (t := 83) (by simp)
  go_loopw [6, 14] (fun q n wr => ∃ (L : List Int) (c : Int), q = .int .u64 c ∧ n = .int .i64 (L.length : Int) ∧ Hid (SubInv L1 L2 L c) ∧ L.length ≤ L1.length ∧ Below w.heap.size w wr ∧ Blk wr w.heap.size #[Value.bool m1, Value.slice A1 L1.length c1] 83 ∧ Blk wr (w.heap.size + 1) #[Value.bool m2, Value.slice A2 L2.length c2] 83 ∧ Blk wr (w.heap.size + 1 + 1) #[.bool false, .slice none 0 0] 83 ∧ ∃ sl, Blk wr (w.heap.size + 1 + 1 + 1) #[.bool false, sl] 83 ∧ Hid (OwnDig wr (w.heap.size + 1 + 1 + 1 + 1) sl L)) (fun q n _ => L1.length - (intOf n).toNat)
  case atStart => exact ⟨[], 0, rfl, rfl, SubInv.start _ _, by simp, hb4, s1, s2, s3, _, s4, OwnG.nil 56 _ _⟩
  case round =>
    obtain ⟨L, c, rfl, rfl, hinv, hL, hb, b1, b2, bR, sl, bO, HO⟩ := hrel
    clear s1 s2 s3 s4 hb4
    have hz := bO.lt
    have hcc : 0 ≤ c ∧ c ≤ 1 := ⟨hinv.out.2.1, hinv.out.2.2.1⟩
    have x0 := b1.cell 0
    have x1 := b1.cell 1
    have y0 := b2.cell 0
    have y1 := b2.cell 1
    have c0 := bO.cell 0
    have c1' := bO.cell 1
    simp only [List.getElem?_toArray, List.getElem?_cons_zero, List.getElem?_cons_succ] at x0 x1 y0 y1 c0 c1'
    by_cases hk1 : L.length < L1.length
    · obtain ⟨q1, o1, rfl, hq1, hat1⟩ := HA1.out.resolve_left (by rintro rfl; simp at hk1)
      have hd1 := N1.out L1[L.length] (List.getElem_mem hk1)
      have HG1 := Lib.hid (get_some L1 L.length L1[L.length] (List.getElem?_eq_getElem hk1))
      have e1 := (hb.cell (p := ⟨q1, o1 + L.length, none⟩) hq1).trans (hat1 L.length L1[L.length] (List.getElem?_eq_getElem hk1))
      clear hat1
      revert hd1 HG1 e1
      generalize L1[L.length] = x
      intro hd1 HG1 e1
      by_cases hk2 : L.length < L2.length
      · obtain ⟨q2, o2, rfl, hq2, hat2⟩ := HA2.out.resolve_left (by rintro rfl; simp at hk2)
        have hd2 := N2.out L2[L.length] (List.getElem_mem hk2)
        have HG2 := Lib.hid (get_some L2 L.length L2[L.length] (List.getElem?_eq_getElem hk2))
        have e2 := (hb.cell (p := ⟨q2, o2 + L.length, none⟩) hq2).trans (hat2 L.length L2[L.length] (List.getElem?_eq_getElem hk2))
        clear hat2
        revert hd2 HG2 e2
        generalize L2[L.length] = y
        intro hd2 HG2 e2
        by_cases hlt : x < c + y
        · skip
          have hnext : Hid (SubInv L1 L2 (L ++ [x + 1000000 - (c + y)]) 1) := by
            have h := hinv.out.step N1.out N2.out x (c + y) HG1.out.symm (by rw [HG2.out]; try omega)
            rw [if_pos hlt, if_pos hlt] at h
            exact h
          have hs0 : 0 ≤ x + 1000000 - (c + y) ∧ x + 1000000 - (c + y) < 1000000 := by omega
          have HO7 := Lib.hid (HO.out.alloc (.cells #[.int .u64 (x + 1000000 - (c + y))] 56))
          have HV7 := Lib.hid (digV_at wr wr.heap.size (x + 1000000 - (c + y)) rfl)
          have hz7 : w.heap.size + 1 + 1 + 1 + 1 ≤ (wr.alloc (.cells #[.int .u64 (x + 1000000 - (c + y))] 56)).heap.size := by have := hb.size; simp; omega
          have hb7 := hb.alloc hb.size (.cells #[.int .u64 (x + 1000000 - (c + y))] 56)
          go_wp2_with (at_builtin; refine wpList_append_g hkD (by decide) 81 56 i0 _ 8 Tryz.underlying81 HI.out HZ0.out HZ1.out HZ2.out rfl _ rfl (.tmp 38) (.tmp 42) rfl (w.heap.size + 1 + 1 + 1 + 1) _ _ L [x + 1000000 - (c + y)] rfl rfl HO7.out HV7.out (one_dig _) (by unfold maxLen; simp only [List.length_singleton]; omega) (by simp only [List.length_singleton]; omega) hz7 ?_; intro v8 w8 ho8 hg8; obtain ⟨A8, c8, rfl⟩ := own_shape ho8; have bb1 : Blk w8 w.heap.size _ 83 := (hg8.block w.heap.size (by simp; omega) (fun e => absurd (OwnG.lt HO7.out _ e.symm).1 (by omega))).trans (b1.alloc _); have bb2 : Blk w8 (w.heap.size + 1) _ 83 := (hg8.block (w.heap.size + 1) (by simp; omega) (fun e => absurd (OwnG.lt HO7.out _ e.symm).1 (by omega))).trans (b2.alloc _); have bbR : Blk w8 (w.heap.size + 1 + 1) _ 83 := (hg8.block (w.heap.size + 1 + 1) (by simp; omega) (fun e => absurd (OwnG.lt HO7.out _ e.symm).1 (by omega))).trans (bR.alloc _); have bbO : Blk w8 (w.heap.size + 1 + 1 + 1) _ 83 := (hg8.block (w.heap.size + 1 + 1 + 1) (by simp; omega) (fun e => absurd (OwnG.lt HO7.out _ e.symm).1 (by omega))).trans (bO.alloc _); have d1 := bbO.cell 1; have g1 := bbO.frozen 1; simp only [List.getElem?_toArray, List.getElem?_cons_zero, List.getElem?_cons_succ] at d1)
          refine ⟨⟨L ++ [x + 1000000 - (c + y)], 1, rfl, by simp, hnext, by simp; omega, ((hb7.trans ((OwnG.grown HO7.out hz7 hg8).mono (by omega))).setCell (by simp; omega) _), bb1.setOther (by omega) _ _, bb2.setOther (by omega) _ _, bbR.setOther (by omega) _ _, _, by simpa using bbO.set 1 _, OwnDig.setOther (by simpa using ho8) (by omega) _ _⟩, ?_⟩
          simp [intOf]
          omega
        · skip
          have hnext : Hid (SubInv L1 L2 (L ++ [x - (c + y)]) 0) := by
            have h := hinv.out.step N1.out N2.out x (c + y) HG1.out.symm (by rw [HG2.out]; try omega)
            rw [if_neg hlt, if_neg hlt] at h
            exact h
          have hs0 : 0 ≤ x - (c + y) ∧ x - (c + y) < 1000000 := by omega
          have HO7 := Lib.hid (HO.out.alloc (.cells #[.int .u64 (x - (c + y))] 56))
          have HV7 := Lib.hid (digV_at wr wr.heap.size (x - (c + y)) rfl)
          have hz7 : w.heap.size + 1 + 1 + 1 + 1 ≤ (wr.alloc (.cells #[.int .u64 (x - (c + y))] 56)).heap.size := by have := hb.size; simp; omega
          have hb7 := hb.alloc hb.size (.cells #[.int .u64 (x - (c + y))] 56)
          go_wp2_with (at_builtin; refine wpList_append_g hkD (by decide) 81 56 i0 _ 8 Tryz.underlying81 HI.out HZ0.out HZ1.out HZ2.out rfl _ rfl (.tmp 38) (.tmp 42) rfl (w.heap.size + 1 + 1 + 1 + 1) _ _ L [x - (c + y)] rfl rfl HO7.out HV7.out (one_dig _) (by unfold maxLen; simp only [List.length_singleton]; omega) (by simp only [List.length_singleton]; omega) hz7 ?_; intro v8 w8 ho8 hg8; obtain ⟨A8, c8, rfl⟩ := own_shape ho8; have bb1 : Blk w8 w.heap.size _ 83 := (hg8.block w.heap.size (by simp; omega) (fun e => absurd (OwnG.lt HO7.out _ e.symm).1 (by omega))).trans (b1.alloc _); have bb2 : Blk w8 (w.heap.size + 1) _ 83 := (hg8.block (w.heap.size + 1) (by simp; omega) (fun e => absurd (OwnG.lt HO7.out _ e.symm).1 (by omega))).trans (b2.alloc _); have bbR : Blk w8 (w.heap.size + 1 + 1) _ 83 := (hg8.block (w.heap.size + 1 + 1) (by simp; omega) (fun e => absurd (OwnG.lt HO7.out _ e.symm).1 (by omega))).trans (bR.alloc _); have bbO : Blk w8 (w.heap.size + 1 + 1 + 1) _ 83 := (hg8.block (w.heap.size + 1 + 1 + 1) (by simp; omega) (fun e => absurd (OwnG.lt HO7.out _ e.symm).1 (by omega))).trans (bO.alloc _); have d1 := bbO.cell 1; have g1 := bbO.frozen 1; simp only [List.getElem?_toArray, List.getElem?_cons_zero, List.getElem?_cons_succ] at d1)
          refine ⟨⟨L ++ [x - (c + y)], 0, rfl, by simp, hnext, by simp; omega, ((hb7.trans ((OwnG.grown HO7.out hz7 hg8).mono (by omega))).setCell (by simp; omega) _), bb1.setOther (by omega) _ _, bb2.setOther (by omega) _ _, bbR.setOther (by omega) _ _, _, by simpa using bbO.set 1 _, OwnDig.setOther (by simpa using ho8) (by omega) _ _⟩, ?_⟩
          simp [intOf]
          omega
      · have HG2 := Lib.hid (get_none L2 L.length (by omega))
        by_cases hlt : x < c
        · skip
          have hnext : Hid (SubInv L1 L2 (L ++ [x + 1000000 - (c)]) 1) := by
            have h := hinv.out.step N1.out N2.out x (c) HG1.out.symm (by rw [HG2.out]; try omega)
            rw [if_pos hlt, if_pos hlt] at h
            exact h
          have hs0 : 0 ≤ x + 1000000 - (c) ∧ x + 1000000 - (c) < 1000000 := by omega
          have HO7 := Lib.hid (HO.out.alloc (.cells #[.int .u64 (x + 1000000 - (c))] 56))
          have HV7 := Lib.hid (digV_at wr wr.heap.size (x + 1000000 - (c)) rfl)
          have hz7 : w.heap.size + 1 + 1 + 1 + 1 ≤ (wr.alloc (.cells #[.int .u64 (x + 1000000 - (c))] 56)).heap.size := by have := hb.size; simp; omega
          have hb7 := hb.alloc hb.size (.cells #[.int .u64 (x + 1000000 - (c))] 56)
          go_wp2_with (at_builtin; refine wpList_append_g hkD (by decide) 81 56 i0 _ 8 Tryz.underlying81 HI.out HZ0.out HZ1.out HZ2.out rfl _ rfl (.tmp 38) (.tmp 42) rfl (w.heap.size + 1 + 1 + 1 + 1) _ _ L [x + 1000000 - (c)] rfl rfl HO7.out HV7.out (one_dig _) (by unfold maxLen; simp only [List.length_singleton]; omega) (by simp only [List.length_singleton]; omega) hz7 ?_; intro v8 w8 ho8 hg8; obtain ⟨A8, c8, rfl⟩ := own_shape ho8; have bb1 : Blk w8 w.heap.size _ 83 := (hg8.block w.heap.size (by simp; omega) (fun e => absurd (OwnG.lt HO7.out _ e.symm).1 (by omega))).trans (b1.alloc _); have bb2 : Blk w8 (w.heap.size + 1) _ 83 := (hg8.block (w.heap.size + 1) (by simp; omega) (fun e => absurd (OwnG.lt HO7.out _ e.symm).1 (by omega))).trans (b2.alloc _); have bbR : Blk w8 (w.heap.size + 1 + 1) _ 83 := (hg8.block (w.heap.size + 1 + 1) (by simp; omega) (fun e => absurd (OwnG.lt HO7.out _ e.symm).1 (by omega))).trans (bR.alloc _); have bbO : Blk w8 (w.heap.size + 1 + 1 + 1) _ 83 := (hg8.block (w.heap.size + 1 + 1 + 1) (by simp; omega) (fun e => absurd (OwnG.lt HO7.out _ e.symm).1 (by omega))).trans (bO.alloc _); have d1 := bbO.cell 1; have g1 := bbO.frozen 1; simp only [List.getElem?_toArray, List.getElem?_cons_zero, List.getElem?_cons_succ] at d1)
          refine ⟨⟨L ++ [x + 1000000 - (c)], 1, rfl, by simp, hnext, by simp; omega, ((hb7.trans ((OwnG.grown HO7.out hz7 hg8).mono (by omega))).setCell (by simp; omega) _), bb1.setOther (by omega) _ _, bb2.setOther (by omega) _ _, bbR.setOther (by omega) _ _, _, by simpa using bbO.set 1 _, OwnDig.setOther (by simpa using ho8) (by omega) _ _⟩, ?_⟩
          simp [intOf]
          omega
        · skip
          have hnext : Hid (SubInv L1 L2 (L ++ [x - (c)]) 0) := by
            have h := hinv.out.step N1.out N2.out x (c) HG1.out.symm (by rw [HG2.out]; try omega)
            rw [if_neg hlt, if_neg hlt] at h
            exact h
          have hs0 : 0 ≤ x - (c) ∧ x - (c) < 1000000 := by omega
          have HO7 := Lib.hid (HO.out.alloc (.cells #[.int .u64 (x - (c))] 56))
          have HV7 := Lib.hid (digV_at wr wr.heap.size (x - (c)) rfl)
          have hz7 : w.heap.size + 1 + 1 + 1 + 1 ≤ (wr.alloc (.cells #[.int .u64 (x - (c))] 56)).heap.size := by have := hb.size; simp; omega
          have hb7 := hb.alloc hb.size (.cells #[.int .u64 (x - (c))] 56)
          go_wp2_with (at_builtin; refine wpList_append_g hkD (by decide) 81 56 i0 _ 8 Tryz.underlying81 HI.out HZ0.out HZ1.out HZ2.out rfl _ rfl (.tmp 38) (.tmp 42) rfl (w.heap.size + 1 + 1 + 1 + 1) _ _ L [x - (c)] rfl rfl HO7.out HV7.out (one_dig _) (by unfold maxLen; simp only [List.length_singleton]; omega) (by simp only [List.length_singleton]; omega) hz7 ?_; intro v8 w8 ho8 hg8; obtain ⟨A8, c8, rfl⟩ := own_shape ho8; have bb1 : Blk w8 w.heap.size _ 83 := (hg8.block w.heap.size (by simp; omega) (fun e => absurd (OwnG.lt HO7.out _ e.symm).1 (by omega))).trans (b1.alloc _); have bb2 : Blk w8 (w.heap.size + 1) _ 83 := (hg8.block (w.heap.size + 1) (by simp; omega) (fun e => absurd (OwnG.lt HO7.out _ e.symm).1 (by omega))).trans (b2.alloc _); have bbR : Blk w8 (w.heap.size + 1 + 1) _ 83 := (hg8.block (w.heap.size + 1 + 1) (by simp; omega) (fun e => absurd (OwnG.lt HO7.out _ e.symm).1 (by omega))).trans (bR.alloc _); have bbO : Blk w8 (w.heap.size + 1 + 1 + 1) _ 83 := (hg8.block (w.heap.size + 1 + 1 + 1) (by simp; omega) (fun e => absurd (OwnG.lt HO7.out _ e.symm).1 (by omega))).trans (bO.alloc _); have d1 := bbO.cell 1; have g1 := bbO.frozen 1; simp only [List.getElem?_toArray, List.getElem?_cons_zero, List.getElem?_cons_succ] at d1)
          refine ⟨⟨L ++ [x - (c)], 0, rfl, by simp, hnext, by simp; omega, ((hb7.trans ((OwnG.grown HO7.out hz7 hg8).mono (by omega))).setCell (by simp; omega) _), bb1.setOther (by omega) _ _, bb2.setOther (by omega) _ _, bbR.setOther (by omega) _ _, _, by simpa using bbO.set 1 _, OwnDig.setOther (by simpa using ho8) (by omega) _ _⟩, ?_⟩
          simp [intOf]
          omega
    · have hL1 : L1.length = L.length := by omega
      have hd := Lib.hid (hinv.out.done hL1 (by omega) HVV.out)
      have HS := Lib.hid (OwnG.val hkD HO.out)
      obtain ⟨A, q, rfl⟩ := own_shape HO.out
      have HT := Lib.hid (fun W (hW : DigV W (.slice A L.length q) L) => trimmed_any A q L W hW hd.out.1 (by omega))
      clear hinv
      go_wp2_with (go_at_call 87; refine (HT.out _ HS.out).mono ?_; rintro e w2 ⟨n, hn, rfl, hnm, hvl, hbb⟩; have bR2 := bR.below hbb; have r0 := bR2.cell 0; have r1 := bR2.cell 1; have g0 := bR2.frozen 0; have g1 := bR2.frozen 1; simp only [List.getElem?_toArray, List.getElem?_cons_zero, List.getElem?_cons_succ] at r0 r1)
      have bF := (bR2.set 0 (.bool false)).set 1 (.slice A n q)
      have d0 := bF.cell 0
      have d1 := bF.cell 1
      simp only [List.setIfInBounds_toArray, List.set_cons_zero, List.set_cons_succ, List.getElem?_toArray, List.getElem?_cons_zero, List.getElem?_cons_succ] at d0 d1
      have hO2 := OwnDig.setOther (OwnDig.setOther (HO.out.below hbb) (b := w.heap.size + 1 + 1) (by omega) 0 (.bool false)) (b := w.heap.size + 1 + 1) (by omega) 1 (.slice A n q)
      refine bodyPost_ret (v := .agg #[.bool false, .slice A n q]) (by simp [results, Tryz.results86, go_sem, d0, d1]) rfl ⟨_, L.take n, rfl, DigB.cut (OwnDig.dig hO2 (by omega)) n hn, hnm, by rw [hvl]; exact hd.out.2, (((hb.trans (hbb.mono hb.size)).setCell (by simp; omega) _).setCell (by simp; omega) _)⟩
end Go.Proofs.YtlmjijiepnefdaaGreatDoor

/-
  The reference's whole numbers: which amount is greater.
-/
namespace Go.Proofs.YtlmjijiepnefdaaGreatDoor
open Go.RowKit

set_option maxRecDepth 100000 in
set_option maxHeartbeats 4000000 in
theorem amounts_any (m1 m2 : Bool) (v1 v2 : Value) (L1 L2 : List Int) (w : World) (h1 : DigV w v1 L1) (h2 : DigV w v2 L2) (n1 : Norm L1) (n2 : Norm L2) (l1 : L1.length ≤ 5000) :
    Calls Tryz.prog 85 #[.agg #[.bool m1, v1], .agg #[.bool m2, v2]] w fun e w' => e = .returned (.int .i64 (ordI (valD L1) (valD L2))) ∧ Below w.heap.size w w' := by
  obtain ⟨A1, c1, rfl, hc1, HA1⟩ := DigV.open h1
  obtain ⟨A2, c2, rfl, hc2, HA2⟩ := DigV.open h2
  have N1 := Lib.hid n1
  have N2 := Lib.hid n2
  clear h1 h2 n1 n2
  by_cases hl : L1.length = L2.length
  · have HL := Lib.hid hl
    obtain ⟨n, g1⟩ : ∃ n, n = L1.length := ⟨_, rfl⟩
    have g2 : L2.length = n := by rw [g1, hl]
    rw [← g1, g2]
    have G1 := Lib.hid g1
    have G2 := Lib.hid g2
    have hn1 : n ≤ c1 := by omega
    have hn2 : n ≤ c2 := by omega
    have hn : n ≤ 5000 := by omega
    clear hl g1 g2 l1 hc1 hc2
    have hb2 := ((Below.refl w.heap.size w).alloc (Nat.le_refl _) (Obj.cells #[Value.bool m1, Value.slice A1 n c1] 83)).alloc (by simp) (Obj.cells #[Value.bool m2, Value.slice A2 n c2] 83)
    have s1 := (Blk.new w #[Value.bool m1, Value.slice A1 n c1] 83).alloc (Obj.cells #[Value.bool m2, Value.slice A2 n c2] 83)
    have s2 := (Blk.atB (w := w.alloc (Obj.cells #[Value.bool m1, Value.slice A1 n c1] 83)) (b := w.heap.size + 1) (cs := #[Value.bool m2, Value.slice A2 n c2]) (t := 83) (by simp))
    go_enter Tryz.func85, Tryz.ntmps85
    go_wp2_with fail
    go_loopw [5] (fun i wr => ∃ k : Nat, k ≤ n ∧ i = .int .i64 ((k : Int) - 1) ∧ Hid (L1.drop k = L2.drop k) ∧ Below w.heap.size w wr ∧ Blk wr w.heap.size #[Value.bool m1, Value.slice A1 n c1] 83 ∧ Blk wr (w.heap.size + 1) #[Value.bool m2, Value.slice A2 n c2] 83) (fun i _ => (intOf i + 1).toNat)
    case atStart => exact ⟨n, Nat.le_refl _, rfl, by unfold Hid; rw [List.drop_of_length_le (by rw [G1.out]; omega), List.drop_of_length_le (by rw [G2.out]; omega)], hb2, s1, s2⟩
    case round =>
      clear s1 s2 hb2
      obtain ⟨k, hk, hi, HD, hb2, b1, b2⟩ := hrel
      have x0 := b1.cell 0
      have x1 := b1.cell 1
      have y0 := b2.cell 0
      have y1 := b2.cell 1
      simp only [List.getElem?_toArray, List.getElem?_cons_zero, List.getElem?_cons_succ] at x0 x1 y0 y1
      cases k with
      | zero =>
        have hi' : u5 = .int .i64 (-1) := by rw [hi]; rfl
        subst hi'
        have HE : Hid (ordI (valD L1) (valD L2) = 0) := by
          unfold Hid
          have h := HD.out
          rw [List.drop_zero, List.drop_zero] at h
          rw [h, ordI_self]
        go_wp2_with fail
        go_ret
        exact ⟨by rw [HE.out]; rfl, hb2⟩
      | succ i =>
        have hi' : u5 = .int .i64 (i : Int) := by rw [hi]; congr 1; omega
        subst hi'
        clear hi
        have hk1 : i < L1.length := by rw [← G1.out]; omega
        have hk2 : i < L2.length := by rw [G2.out]; omega
        obtain ⟨q1, o1, rfl, hq1, hat1⟩ := HA1.out.resolve_left (by rintro rfl; simp at hk1)
        obtain ⟨q2, o2, rfl, hq2, hat2⟩ := HA2.out.resolve_left (by rintro rfl; simp at hk2)
        have e1 := (hb2.cell (p := ⟨q1, o1 + i, none⟩) hq1).trans (hat1 i L1[i] (List.getElem?_eq_getElem (by omega)))
        have e2 := (hb2.cell (p := ⟨q2, o2 + i, none⟩) hq2).trans (hat2 i L2[i] (List.getElem?_eq_getElem hk2))
        have HLT : Hid (L1[i] < L2[i] → valD L1 < valD L2) := fun h => valD_digit N1.out.1 N2.out.1 HL.out i hk1 HD.out h
        have HGT : Hid (L2[i] < L1[i] → valD L2 < valD L1) := fun h => valD_digit N2.out.1 N1.out.1 HL.out.symm i hk2 HD.out.symm h
        have HEQ : Hid (L1[i] = L2[i] → L1.drop i = L2.drop i) := fun h => by
          rw [List.drop_eq_getElem_cons (show i < L1.length by omega), List.drop_eq_getElem_cons hk2, h, HD.out]
        clear hat1 hat2 HD
        revert e1 e2 HLT HGT HEQ
        generalize L1[i] = x
        generalize L2[i] = y
        intro e1 e2 HLT HGT HEQ
        clear hk1 hk2
        by_cases c1' : x < y
        · have HE : Hid (ordI (valD L1) (valD L2) = -1) := by unfold Hid ordI; rw [if_pos (HLT.out c1')]
          clear HLT HGT HEQ
          go_wp2_with fail
          go_region
          first | (rename_i K0 hK0 _; change K0 _ _; refine hK0 _ _ ?_) | (rename_i K0 hK0; change K0 _ _; refine hK0 _ _ ?_)
          go_wp2_with fail
          go_ret
          exact ⟨by rw [HE.out]; rfl, hb2.drew⟩
        · by_cases c2' : y < x
          · have HE : Hid (ordI (valD L1) (valD L2) = 1) := by
              unfold Hid ordI
              have h := HGT.out c2'
              rw [if_neg (by omega), if_pos h]
            clear HLT HGT HEQ
            go_wp2_with fail
            go_region
            first | (rename_i K0 hK0 _; change K0 _ _; refine hK0 _ _ ?_) | (rename_i K0 hK0; change K0 _ _; refine hK0 _ _ ?_)
            go_wp2_with fail
            go_region
            first | (rename_i K1 hK1 _; change K1 _ _; refine hK1 _ _ ?_) | (rename_i K1 hK1; change K1 _ _; refine hK1 _ _ ?_)
            go_wp2_with fail
            go_ret
            exact ⟨by rw [HE.out]; rfl, hb2.drew.drew⟩
          · have HN := Lib.hid (HEQ.out (by omega))
            clear HLT HGT HEQ
            go_wp2_with fail
            go_region
            first | (rename_i K0 hK0 _; change K0 _ _; refine hK0 _ _ ?_) | (rename_i K0 hK0; change K0 _ _; refine hK0 _ _ ?_)
            go_wp2_with fail
            go_region
            first | (rename_i K1 hK1 _; change K1 _ _; refine hK1 _ _ ?_) | (rename_i K1 hK1; change K1 _ _; refine hK1 _ _ ?_)
            go_wp2_with fail
            exact ⟨⟨i, by omega, by go_num, HN, hb2.drew.drew, b1, b2⟩, by simp [intOf]⟩
  · have hl' : ((L1.length : Int) == (L2.length : Int)) = false := by simp; omega
    have hb2 := ((Below.refl w.heap.size w).alloc (Nat.le_refl _) (Obj.cells #[Value.bool m1, Value.slice A1 L1.length c1] 83)).alloc (by simp) (Obj.cells #[Value.bool m2, Value.slice A2 L2.length c2] 83)
    by_cases hlt : L1.length < L2.length
    · have HE : Hid (ordI (valD L1) (valD L2) = -1) := by unfold Hid ordI; rw [if_pos (N1.out.len_lt N2.out hlt)]
      go_enter Tryz.func85, Tryz.ntmps85
      go_wp2_with fail
      go_ret
      exact ⟨by rw [HE.out]; rfl, hb2⟩
    · have HE : Hid (ordI (valD L1) (valD L2) = 1) := by
        unfold Hid ordI
        have h := N2.out.len_lt N1.out (by omega)
        rw [if_neg (by omega), if_pos h]
      go_enter Tryz.func85, Tryz.ntmps85
      go_wp2_with fail
      go_ret
      exact ⟨by rw [HE.out]; rfl, hb2⟩

set_option maxRecDepth 100000 in
set_option maxHeartbeats 4000000 in
theorem minus_any (m : Bool) (v : Value) (L : List Int) (w : World) (h : DigV w v L) :
    Calls Tryz.prog 69 #[.agg #[.bool m, v]] w fun e w' => e = .returned (.agg #[.bool (!m && decide (0 < L.length)), v]) ∧ Below w.heap.size w w' := by
  obtain ⟨A1, c1, rfl, hc1, HA1⟩ := DigV.open h
  clear h
  have hb2 := ((Below.refl w.heap.size w).alloc (Nat.le_refl _) (Obj.cells #[Value.bool m, Value.slice A1 L.length c1] 83)).alloc (by simp) (Obj.cells #[Value.bool false, Value.slice none 0 0] 83)
  by_cases hp : 0 < L.length
  · have hd : decide (0 < L.length) = true := decide_eq_true hp
    rw [hd]
    cases m
    · go_enter Tryz.func69, Tryz.ntmps69
      go_wp2_with fail
      have bF := Blk.atB (w := w.alloc (Obj.cells #[Value.bool false, Value.slice A1 L.length c1] 83)) (b := w.heap.size + 1) (cs := #[Value.bool true, Value.slice A1 L.length c1]) (t := 83) (by simp)
      have d0 := bF.cell 0
      have d1 := bF.cell 1
      simp only [List.getElem?_toArray, List.getElem?_cons_zero, List.getElem?_cons_succ] at d0 d1
      refine bodyPost_ret (v := .agg #[.bool true, .slice A1 L.length c1]) (by simp [results, Tryz.results69, go_sem, d0, d1]) rfl ⟨rfl, ((Below.refl w.heap.size w).alloc (Nat.le_refl _) _).alloc (by simp) _⟩
    · go_enter Tryz.func69, Tryz.ntmps69
      go_wp2_with fail
      have bF := Blk.atB (w := w.alloc (Obj.cells #[Value.bool true, Value.slice A1 L.length c1] 83)) (b := w.heap.size + 1) (cs := #[Value.bool false, Value.slice A1 L.length c1]) (t := 83) (by simp)
      have d0 := bF.cell 0
      have d1 := bF.cell 1
      simp only [List.getElem?_toArray, List.getElem?_cons_zero, List.getElem?_cons_succ] at d0 d1
      refine bodyPost_ret (v := .agg #[.bool false, .slice A1 L.length c1]) (by simp [results, Tryz.results69, go_sem, d0, d1]) rfl ⟨rfl, ((Below.refl w.heap.size w).alloc (Nat.le_refl _) _).alloc (by simp) _⟩
  · have hd : decide (0 < L.length) = false := decide_eq_false hp
    rw [hd]
    cases m
    · go_enter Tryz.func69, Tryz.ntmps69
      go_wp2_with fail
      have bF := Blk.atB (w := w.alloc (Obj.cells #[Value.bool false, Value.slice A1 L.length c1] 83)) (b := w.heap.size + 1) (cs := #[Value.bool false, Value.slice A1 L.length c1]) (t := 83) (by simp)
      have d0 := bF.cell 0
      have d1 := bF.cell 1
      simp only [List.getElem?_toArray, List.getElem?_cons_zero, List.getElem?_cons_succ] at d0 d1
      refine bodyPost_ret (v := .agg #[.bool false, .slice A1 L.length c1]) (by simp [results, Tryz.results69, go_sem, d0, d1]) rfl ⟨rfl, ((Below.refl w.heap.size w).alloc (Nat.le_refl _) _).alloc (by simp) _⟩
    · go_enter Tryz.func69, Tryz.ntmps69
      go_wp2_with fail
      have bF := Blk.atB (w := w.alloc (Obj.cells #[Value.bool true, Value.slice A1 L.length c1] 83)) (b := w.heap.size + 1) (cs := #[Value.bool false, Value.slice A1 L.length c1]) (t := 83) (by simp)
      have d0 := bF.cell 0
      have d1 := bF.cell 1
      simp only [List.getElem?_toArray, List.getElem?_cons_zero, List.getElem?_cons_succ] at d0 d1
      refine bodyPost_ret (v := .agg #[.bool false, .slice A1 L.length c1]) (by simp [results, Tryz.results69, go_sem, d0, d1]) rfl ⟨rfl, ((Below.refl w.heap.size w).alloc (Nat.le_refl _) _).alloc (by simp) _⟩

end Go.Proofs.YtlmjijiepnefdaaGreatDoor
