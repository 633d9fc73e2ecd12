/-
  Whole numbers in digits of a million, the lowest first: pure facts.
-/
import Derived.Test.YtippffjhkinfoaaGreatDoorPure
namespace Go.Proofs.YtippffjhkinfoaaGreatDoor

/-- The value of digits, the lowest first. -/
def valD : List Int → Int
  | [] => 0
  | d :: t => d + 1000000 * valD t
/-- A million to the power n. -/
def pw : Nat → Int
  | 0 => 1
  | n + 1 => 1000000 * pw n
def DigOk (l : List Int) : Prop := ∀ d ∈ l, 0 ≤ d ∧ d < 1000000
/-- Digits with no nought at the upper end. -/
def Norm (l : List Int) : Prop := DigOk l ∧ ∀ t d, l = t ++ [d] → d ≠ 0

theorem pw_pos : ∀ n, 0 < pw n
  | 0 => by decide
  | n + 1 => by have := pw_pos n; unfold pw; omega
theorem pw_succ (n : Nat) : pw (n + 1) = 1000000 * pw n := rfl
theorem pw_mono {m n : Nat} (h : m ≤ n) : pw m ≤ pw n := by
  induction h with
  | refl => exact Int.le_refl _
  | step _ ih => have := pw_pos m; rw [pw_succ]; omega
theorem valD_app : ∀ (l : List Int) (d : Int), valD (l ++ [d]) = valD l + pw l.length * d
  | [], d => by simp [valD, pw]
  | x :: t, d => by
    rw [List.cons_append, valD, valD_app t d, valD, List.length_cons, pw_succ, Int.mul_add, Int.mul_assoc]
    omega
theorem DigOk.app {l : List Int} (h : DigOk l) {d : Int} (h0 : 0 ≤ d) (h1 : d < 1000000) : DigOk (l ++ [d]) := by
  intro x hx
  rcases List.mem_append.mp hx with hx | hx
  · exact h x hx
  · simp only [List.mem_singleton] at hx; subst hx; exact ⟨h0, h1⟩
theorem DigOk.take {l : List Int} (h : DigOk l) (n : Nat) : DigOk (l.take n) := fun d hd => h d (List.mem_of_mem_take hd)
theorem DigOk.drop {l : List Int} (h : DigOk l) (n : Nat) : DigOk (l.drop n) := fun d hd => h d (List.mem_of_mem_drop hd)
theorem valD_bound : ∀ {l : List Int}, DigOk l → 0 ≤ valD l ∧ valD l < pw l.length
  | [], _ => by simp [valD, pw]
  | x :: t, h => by
    have h1 := valD_bound (l := t) (fun d hd => h d (by simp [hd]))
    have h2 := h x (by simp)
    rw [valD, List.length_cons, pw_succ]
    omega
theorem valD_split : ∀ (l : List Int) (n : Nat), n ≤ l.length → valD l = valD (l.take n) + pw n * valD (l.drop n)
  | l, 0, _ => by simp [valD, pw]
  | [], n + 1, h => by simp at h
  | x :: t, n + 1, h => by
    have := valD_split t n (by simpa using h)
    rw [List.take_succ_cons, List.drop_succ_cons, valD, valD, this, pw_succ, Int.mul_add, Int.mul_assoc]
    omega
theorem valD_succ (l : List Int) (n : Nat) (h : n < l.length) : valD (l.take (n + 1)) = valD (l.take n) + pw n * l[n] := by
  rw [List.take_succ_eq_append_getElem h, valD_app, List.length_take, Nat.min_eq_left (by omega)]
theorem valD_drop (l : List Int) (n : Nat) (h : n < l.length) : valD (l.drop n) = l[n] + 1000000 * valD (l.drop (n + 1)) := by
  rw [List.drop_eq_getElem_cons h, valD]
theorem valD_take_le {l : List Int} (h : DigOk l) (n : Nat) (hn : n ≤ l.length) : valD (l.take n) ≤ valD l := by
  rw [valD_split l n hn]
  have h1 := (valD_bound (h.drop n)).1
  have := Int.mul_nonneg (Int.le_of_lt (pw_pos n)) h1
  omega
theorem valD_drop_le {l : List Int} (h : DigOk l) (n : Nat) (hn : n ≤ l.length) : valD (l.drop n) ≤ valD l := by
  rw [valD_split l n hn]
  have h1 := (valD_bound (h.drop n)).1
  have h2 := (valD_bound (h.take n)).1
  have h3 := pw_pos n
  have : valD (l.drop n) * 1 ≤ pw n * valD (l.drop n) := by
    rw [Int.mul_comm (pw n)]
    exact Int.mul_le_mul_of_nonneg_left (by omega) h1
  omega

theorem Norm.nil : Norm [] := ⟨by intro d hd; simp at hd, by intro t d h; simp at h⟩
/-- Digits with no nought at the upper end are worth what their number says. -/
theorem Norm.low {l : List Int} (h : Norm l) (i : Nat) (hi : i < l.length) : pw i ≤ valD l := by
  obtain ⟨t, d, rfl⟩ : ∃ t d, l = t ++ [d] := by
    rcases List.eq_nil_or_concat l with rfl | ⟨t, d, rfl⟩
    · simp at hi
    · exact ⟨t, d, by simp⟩
  have hd := h.2 t d rfl
  have h1 := h.1 d (by simp)
  have h2 := (valD_bound (l := t) (fun x hx => h.1 x (by simp [hx]))).1
  rw [valD_app]
  have h3 := pw_mono (m := i) (n := t.length) (by simp at hi; omega)
  have h4 := pw_pos t.length
  have : pw t.length * 1 ≤ pw t.length * d := Int.mul_le_mul_of_nonneg_left (by omega) (by omega)
  omega
theorem norm_of {l : List Int} (h : DigOk l) (hl : l = [] ∨ pw (l.length - 1) ≤ valD l) : Norm l := by
  refine ⟨h, ?_⟩
  rintro t d rfl hd
  subst hd
  rcases hl with hl | hl
  · simp at hl
  · rw [valD_app] at hl
    have h2 := (valD_bound (l := t) (fun x hx => h x (by simp [hx]))).2
    simp at hl
    omega
theorem Norm.len_le {a b : List Int} (ha : DigOk a) (hb : Norm b) (h : valD b ≤ valD a) : b.length ≤ a.length := by
  rcases Nat.lt_or_ge a.length b.length with h1 | h1
  · have := hb.low a.length h1
    have := (valD_bound ha).2
    omega
  · exact h1
theorem Norm.len_lt {a b : List Int} (ha : Norm a) (hb : Norm b) (h : a.length < b.length) : valD a < valD b := by
  have := hb.low a.length h
  have := (valD_bound ha.1).2
  omega
theorem Norm.zero {a : List Int} (h : Norm a) : valD a = 0 ↔ a = [] := by
  constructor
  · intro e
    rcases Nat.eq_zero_or_pos a.length with h0 | h0
    · exact List.length_eq_zero_iff.mp h0
    · have := h.low 0 h0
      unfold pw at this; omega
  · rintro rfl; rfl
/-- What stands above a place is the same: the digit at the place decides. -/
theorem valD_digit {a b : List Int} (ha : DigOk a) (hb : DigOk b) (hl : a.length = b.length) (i : Nat) (hi : i < a.length) (hd : a.drop (i + 1) = b.drop (i + 1)) (h : a[i] < b[i]'(hl ▸ hi)) : valD a < valD b := by
  have hib : i < b.length := hl ▸ hi
  rw [valD_split a (i + 1) (by omega), valD_split b (i + 1) (by omega), hd, valD_succ a i hi, valD_succ b i hib]
  have h1 := (valD_bound (ha.take i)).2
  have h2 := (valD_bound (hb.take i)).1
  rw [List.length_take, Nat.min_eq_left (by omega)] at h1
  have h3 := pw_pos i
  have : pw i * (a[i] + 1) ≤ pw i * b[i] := Int.mul_le_mul_of_nonneg_left (by omega) (by omega)
  rw [Int.mul_add] at this
  omega

/-- Adding up: what holds ahead of each digit. -/
def AddInv (a b L : List Int) (c : Int) : Prop := DigOk L ∧ 0 ≤ c ∧ c ≤ 1 ∧ valD L + pw L.length * c = valD (a.take L.length) + valD (b.take L.length) ∧ (L = [] ∨ pw (L.length - 1) ≤ valD a + valD b)
theorem take_get (a : List Int) (n : Nat) : valD (a.take (n + 1)) = valD (a.take n) + pw n * (a[n]?.getD 0) := by
  by_cases h : n < a.length
  · rw [valD_succ a n h, List.getElem?_eq_getElem h, Option.getD_some]
  · rw [List.getElem?_eq_none (by omega), Option.getD_none, List.take_of_length_le (by omega), List.take_of_length_le (by omega)]; omega
theorem dig_get {a : List Int} (h : DigOk a) (n : Nat) : 0 ≤ a[n]?.getD 0 ∧ a[n]?.getD 0 < 1000000 := by
  by_cases hn : n < a.length
  · rw [List.getElem?_eq_getElem hn, Option.getD_some]; exact h _ (List.getElem_mem hn)
  · rw [List.getElem?_eq_none (by omega), Option.getD_none]; decide
theorem AddInv.start (a b : List Int) : AddInv a b [] 0 := ⟨by intro d hd; simp at hd, by decide, by decide, by simp [valD], .inl rfl⟩
theorem AddInv.step {a b L : List Int} {c : Int} (h : AddInv a b L c) (ha : Norm a) (hb : Norm b) (hg : L.length < a.length ∨ L.length < b.length ∨ 0 < c) (s : Int) (hs : s = c + a[L.length]?.getD 0 + b[L.length]?.getD 0) :
    AddInv a b (L ++ [s % 1000000]) (s / 1000000) := by
  obtain ⟨h1, h2, h3, h4, h5⟩ := h
  have da := dig_get ha.1 L.length
  have db := dig_get hb.1 L.length
  have hp := pw_pos L.length
  refine ⟨h1.app (by omega) (by omega), by omega, by omega, ?_, .inr ?_⟩
  · rw [List.length_append, List.length_singleton, take_get, take_get, valD_app, pw_succ]
    have e : s = 1000000 * (s / 1000000) + s % 1000000 := by omega
    generalize s / 1000000 = q at e ⊢
    generalize s % 1000000 = r at e ⊢
    have e2 : pw L.length * s = pw L.length * c + pw L.length * (a[L.length]?.getD 0) + pw L.length * (b[L.length]?.getD 0) := by rw [hs, Int.mul_add, Int.mul_add]
    have e3 : pw L.length * s = 1000000 * pw L.length * q + pw L.length * r := by
      rw [e, Int.mul_add, Int.mul_comm 1000000 (pw L.length), Int.mul_assoc]
    omega
  · rw [List.length_append, List.length_singleton, Nat.add_sub_cancel]
    have va := (valD_bound ha.1).1
    have vb := (valD_bound hb.1).1
    rcases hg with hg | hg | hg
    · have := ha.low _ hg; omega
    · have := hb.low _ hg; omega
    · have ta : valD (a.take L.length) ≤ valD a := by
        rcases Nat.le_total L.length a.length with q | q
        · exact valD_take_le ha.1 _ q
        · rw [List.take_of_length_le q]; exact Int.le_refl _
      have tb : valD (b.take L.length) ≤ valD b := by
        rcases Nat.le_total L.length b.length with q | q
        · exact valD_take_le hb.1 _ q
        · rw [List.take_of_length_le q]; exact Int.le_refl _
      have hL := (valD_bound h1).1
      have : c = 1 := by omega
      rw [this] at h4
      omega
theorem AddInv.done {a b L : List Int} (h : AddInv a b L 0) (ha : a.length ≤ L.length) (hb : b.length ≤ L.length) : Norm L ∧ valD L = valD a + valD b := by
  obtain ⟨h1, _, _, h4, h5⟩ := h
  rw [List.take_of_length_le ha, List.take_of_length_le hb] at h4
  have e : valD L = valD a + valD b := by omega
  exact ⟨norm_of h1 (h5.imp id (fun q => by omega)), e⟩

/-- Taking away: what holds ahead of each digit. -/
def SubInv (a b L : List Int) (c : Int) : Prop := DigOk L ∧ 0 ≤ c ∧ c ≤ 1 ∧ valD L - pw L.length * c = valD (a.take L.length) - valD (b.take L.length)
theorem SubInv.start (a b : List Int) : SubInv a b [] 0 := ⟨by intro d hd; simp at hd, by decide, by decide, by simp [valD]⟩
theorem SubInv.step {a b L : List Int} {c : Int} (h : SubInv a b L c) (ha : DigOk a) (hb : DigOk b) (x y : Int) (hx : x = a[L.length]?.getD 0) (hy : y = c + b[L.length]?.getD 0) :
    SubInv a b (L ++ [if x < y then x + 1000000 - y else x - y]) (if x < y then 1 else 0) := by
  obtain ⟨h1, h2, h3, h4⟩ := h
  have da := dig_get ha L.length
  have db := dig_get hb L.length
  refine ⟨h1.app (by split <;> omega) (by split <;> omega), by split <;> decide, by split <;> decide, ?_⟩
  rw [List.length_append, List.length_singleton, take_get, take_get, valD_app, pw_succ]
  generalize a[L.length]?.getD 0 = p at *
  generalize b[L.length]?.getD 0 = q at *
  subst hx hy
  split
  · have e : pw L.length * (x + 1000000 - (c + q)) = pw L.length * x + pw L.length * 1000000 - (pw L.length * c + pw L.length * q) := by rw [Int.mul_sub, Int.mul_add, Int.mul_add]
    rw [e]; omega
  · have e : pw L.length * (x - (c + q)) = pw L.length * x - (pw L.length * c + pw L.length * q) := by rw [Int.mul_sub, Int.mul_add]
    rw [e]; omega
theorem SubInv.done {a b L : List Int} {c : Int} (h : SubInv a b L c) (ha : a.length = L.length) (hb : b.length ≤ L.length) (hv : valD b ≤ valD a) : DigOk L ∧ valD L = valD a - valD b := by
  obtain ⟨h1, h2, h3, h4⟩ := h
  rw [List.take_of_length_le (by omega), List.take_of_length_le hb] at h4
  have h5 := (valD_bound h1).2
  have : c = 0 := by
    rcases Int.lt_or_le 0 c with q | q
    · have : c = 1 := by omega
      rw [this] at h4; omega
    · omega
  rw [this] at h4
  exact ⟨h1, by omega⟩

/-- A number's digits: what holds ahead of each. -/
def OfInv (N : Int) (L : List Int) (n : Int) : Prop := DigOk L ∧ 0 ≤ n ∧ valD L + pw L.length * n = N ∧ (L = [] ∨ pw (L.length - 1) ≤ N)
theorem OfInv.start (N : Int) (h : 0 ≤ N) : OfInv N [] N := ⟨by intro d hd; simp at hd, h, by simp [valD, pw], .inl rfl⟩
theorem OfInv.step {N : Int} {L : List Int} {n : Int} (h : OfInv N L n) (hn : 0 < n) : OfInv N (L ++ [n % 1000000]) (n / 1000000) := by
  obtain ⟨h1, h2, h3, h4⟩ := h
  have hp := pw_pos L.length
  have hL := (valD_bound h1).1
  have hm : pw L.length * 1 ≤ pw L.length * n := Int.mul_le_mul_of_nonneg_left (by omega) (by omega)
  refine ⟨h1.app (by omega) (by omega), by omega, ?_, .inr ?_⟩
  · rw [List.length_append, List.length_singleton, valD_app, pw_succ]
    have e : n = 1000000 * (n / 1000000) + n % 1000000 := by omega
    generalize n / 1000000 = q at e ⊢
    generalize n % 1000000 = r at e ⊢
    have e3 : pw L.length * n = 1000000 * pw L.length * q + pw L.length * r := by
      rw [e, Int.mul_add, Int.mul_comm 1000000 (pw L.length), Int.mul_assoc]
    omega
  · rw [List.length_append, List.length_singleton, Nat.add_sub_cancel]; omega
theorem OfInv.done {N : Int} {L : List Int} (h : OfInv N L 0) : Norm L ∧ valD L = N := by
  obtain ⟨h1, _, h3, h4⟩ := h
  have : valD L = N := by omega
  exact ⟨norm_of h1 (h4.imp id (fun q => by omega)), this⟩
/-- A number below 2^64 has at most four digits. -/
theorem Norm.len4 {L : List Int} (h : Norm L) (hv : valD L < 1000000000000000000000000) : L.length ≤ 4 := by
  rcases Nat.lt_or_ge 4 L.length with q | q
  · have := h.low 4 q
    have e : pw 4 = 1000000000000000000000000 := by decide
    omega
  · exact q
theorem Norm.len5 {L : List Int} (h : Norm L) (hv : valD L < 1000000000000000000000000000000) : L.length ≤ 5 := by
  rcases Nat.lt_or_ge 5 L.length with q | q
  · have := h.low 5 q
    have e : pw 5 = 1000000000000000000000000000000 := by decide
    omega
  · exact q
/-- Trimming: a nought at the upper end is worth nothing. -/
theorem trim_step {L : List Int} (n : Nat) (hn : n < L.length) (h : L[n] = 0) : valD (L.take (n + 1)) = valD (L.take n) := by
  rw [valD_succ L n hn, h]; omega
theorem trim_norm {L : List Int} (h : DigOk L) (n : Nat) (hn : n ≤ L.length) (hz : n = 0 ∨ ∃ h : n - 1 < L.length, L[n - 1] ≠ 0) : Norm (L.take n) := by
  refine ⟨h.take n, ?_⟩
  intro t d e hd
  subst hd
  have h1 : (L.take n).length = t.length + 1 := by rw [e]; simp
  rw [List.length_take, Nat.min_eq_left hn] at h1
  rcases hz with rfl | ⟨hz, hz2⟩
  · omega
  · have h2 : (L.take n)[n - 1]? = some 0 := by rw [e, List.getElem?_append_right (by omega)]; simp [h1]
    rw [List.getElem?_take, if_pos (by omega), List.getElem?_eq_getElem hz] at h2
    injection h2 with h2
    exact hz2 h2

/-- A whole number: its sign and its amount. -/
def zOf (m : Bool) (l : List Int) : Int := if m then -valD l else valD l

end Go.Proofs.YtippffjhkinfoaaGreatDoor
