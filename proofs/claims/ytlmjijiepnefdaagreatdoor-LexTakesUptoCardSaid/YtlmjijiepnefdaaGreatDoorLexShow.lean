/-
  How a token is shown; and that what is shown, with blanks behind it, is that token again: plain facts; no conditions.
-/
import Derived.Test.YtlmjijiepnefdaaGreatDoorLexPl
import Derived.Test.YtlmjijiepnefdaaGreatDoorPrintP
namespace Go.Proofs.YtlmjijiepnefdaaGreatDoor
open Go.RowKit

/-! ### runs, with a blank or nothing behind them -/
def Stop (r : List UInt8) : Prop := r = [] ∨ ∃ c r', r = c :: r' ∧ blankB c = true
theorem blank_not : ∀ c : UInt8, blankB c = true → nameB c = false ∧ letterB c = false ∧ digitB c = false ∧ hexB c = false ∧ c ≠ 39 ∧ c ≠ 46 ∧ c ≠ 45 ∧ c.toNat < 128 := u8_all _ (by decide +kernel)
theorem run_app {p : UInt8 → Bool} {s r : List UInt8} (hs : ∀ c ∈ s, p c = true) (hr : r = [] ∨ ∃ c r', r = c :: r' ∧ p c = false) : runN p (s ++ r) = s.length := by
  induction s with
  | nil =>
    rcases hr with rfl | ⟨c, r', rfl, h⟩
    · rfl
    · rw [List.nil_append, runN_cons, h]; rfl
  | cons c s ih =>
    rw [List.cons_append, runN_cons, if_pos (hs c (by simp)), ih (fun x hx => hs x (by simp [hx])), List.length_cons]
theorem Stop.no {r : List UInt8} (h : Stop r) {p : UInt8 → Bool} (hp : ∀ c, blankB c = true → p c = false) : r = [] ∨ ∃ c r', r = c :: r' ∧ p c = false := by
  rcases h with h | ⟨c, r', h, hb⟩
  · exact .inl h
  · exact .inr ⟨c, r', h, hp c hb⟩
theorem prefix_stop {r : List UInt8} (h : Stop r) : ∀ (q s : List UInt8), (∀ c ∈ q, blankB c = false) → Lib.hasPrefix (s ++ r) q = Lib.hasPrefix s q
  | [], s, _ => by simp [Lib.hasPrefix]
  | x :: q, [], hq => by
    rcases h with rfl | ⟨c, r', rfl, hb⟩
    · rfl
    · have : x ≠ c := fun e => by have := hq x (by simp); rw [e, hb] at this; cases this
      simp [Lib.hasPrefix, List.isPrefixOf, this]
  | x :: q, y :: s, hq => by
    have := prefix_stop h q s (fun c hc => hq c (by simp [hc]))
    unfold Lib.hasPrefix at this ⊢
    simp [List.isPrefixOf, this]
theorem take_app (s r : List UInt8) : (s ++ r).take s.length = s := List.take_left
theorem drop_app (s r : List UInt8) : (s ++ r).drop s.length = r := List.drop_left

/-! ### names and words -/
theorem letter_not : ∀ c : UInt8, nameB c = true → c ≠ 39 ∧ blankB c = false ∧ c ≠ 45 := u8_all _ (by decide +kernel)
theorem hexQ_name {s r : List UInt8} (ha : ∀ x ∈ s, nameB x = true) (hr : Stop r) (hne : s ≠ []) : hexQ (s ++ r) = false := by
  cases s with
  | nil => exact absurd rfl hne
  | cons c s =>
    have h : Lib.hasPrefix (s ++ r) [39] = false := by
      rw [prefix_stop hr _ _ (by decide +kernel)]
      cases s with
      | nil => rfl
      | cons d s =>
        have := (letter_not d (ha d (by simp))).1
        simp [Lib.hasPrefix, List.isPrefixOf, Ne.symm this]
    unfold hexQ
    rw [List.cons_append, List.drop_one, List.tail_cons, h, Bool.and_false]
theorem first_name {c : UInt8} {s r : List UInt8} (hc : letterB c = true) (ha : ∀ x ∈ c :: s, nameB x = true) (hl : (c :: s).length ≤ 20) (hr : Stop r) :
    firstR ((c :: s) ++ r) = if isWord (Lib.toUpperA (c :: s)) then (⟨2, Lib.toUpperA (c :: s), 0, 0, []⟩, (c :: s).length, 0) else (⟨1, Lib.toLowerA (c :: s), 0, 0, []⟩, (c :: s).length, 0) := by
  have hrun : runN nameB ((c :: s) ++ r) = (c :: s).length := run_app ha (hr.no fun c hb => (blank_not c hb).1)
  unfold firstR
  rw [hexQ_name ha hr (by simp), if_neg (by simp), if_pos (by simpa using hc)]
  unfold nameR
  rw [hrun, if_neg (by omega), take_app]

/-! ### numbers -/
theorem digit_not : ∀ c : UInt8, digitB c = true → c ≠ 120 ∧ c ≠ 88 ∧ letterB c = false ∧ blankB c = false ∧ c ≠ 45 ∧ c ≠ 39 := u8_all _ (by decide +kernel)
theorem first_digit {c : UInt8} {l : List UInt8} (hc : digitB c = true) : firstR (c :: l) = numR (c :: l) := by
  obtain ⟨h1, h2, h3, _⟩ := digit_not c hc
  unfold firstR
  have hq : hexQ (c :: l) = false := by unfold hexQ; simp [h1, h2]
  rw [hq, if_neg (by simp), if_neg (by simp [h3]), if_pos (by simpa using hc)]
theorem first_int {d r : List UInt8} (hd : ∀ c ∈ d, digitB c = true) (hne : d ≠ []) (hr : Stop r) (hv : decF 0 d ≤ 9223372036854775808) :
    firstR (d ++ r) = (⟨3, [], 2, numV (decF 0 d), []⟩, d.length, 0) := by
  have hrun : runN digitB (d ++ r) = d.length := run_app hd (hr.no fun c hb => (blank_not c hb).2.2.1)
  have hl : runN letterB r = 0 := by
    have := run_app (p := letterB) (s := []) (r := r) (by simp) (hr.no fun c hb => (blank_not c hb).2.1)
    simpa using this
  have hf : numF (d ++ r) = 0 := by
    unfold numF fracN
    rw [hrun, drop_app, if_neg]
    have := prefix_stop hr [46] [] (by decide +kernel)
    rw [List.nil_append] at this
    rw [this]; decide
  have hn : numN (d ++ r) = d.length := by unfold numN; rw [hf, hrun]; rfl
  have hD : numD (d ++ r) = d := by unfold numD; rw [hf, hrun, take_app]; simp
  have e : firstR (d ++ r) = numR (d ++ r) := by
    cases d with
    | nil => exact absurd rfl hne
    | cons c d => exact first_digit (hd c (by simp))
  rw [e]
  unfold numR
  rw [hf, hD, hn, drop_app, hl, if_neg (by omega), if_neg (by omega)]
  rfl
theorem first_dec {d f r : List UInt8} (hd : ∀ c ∈ d, digitB c = true) (hne : d ≠ []) (hf : ∀ c ∈ f, digitB c = true) (h4 : f.length = 4) (hr : Stop r) (hv : decF 0 (d ++ f) ≤ 9223372036854775808) :
    firstR (d ++ 46 :: (f ++ r)) = (⟨3, [], 3, numV (decF 0 (d ++ f)), []⟩, d.length + 5, 0) := by
  have hrun : runN digitB (d ++ 46 :: (f ++ r)) = d.length := run_app hd (.inr ⟨46, _, rfl, rfl⟩)
  have hl : runN letterB r = 0 := by
    have := run_app (p := letterB) (s := []) (r := r) (by simp) (hr.no fun c hb => (blank_not c hb).2.1)
    simpa using this
  have hfr : runN digitB (f ++ r) = 4 := by rw [run_app hf (hr.no fun c hb => (blank_not c hb).2.2.1), h4]
  have hF : numF (d ++ 46 :: (f ++ r)) = 4 := by
    unfold numF fracN
    rw [hrun, drop_app, if_pos (by simp [Lib.hasPrefix, List.isPrefixOf]), List.drop_one, List.tail_cons, hfr]
  have hn : numN (d ++ 46 :: (f ++ r)) = d.length + 5 := by unfold numN; rw [hF, hrun]; rfl
  have hD : numD (d ++ 46 :: (f ++ r)) = d ++ f := by
    unfold numD
    rw [hF, hrun, take_app, drop_app, List.drop_one, List.tail_cons, ← h4, take_app]
    simp
  have hdr : (d ++ 46 :: (f ++ r)).drop (d.length + 5) = r := by
    rw [← List.drop_drop, drop_app, List.drop_succ_cons, ← h4, drop_app]
  have e : firstR (d ++ 46 :: (f ++ r)) = numR (d ++ 46 :: (f ++ r)) := by
    cases d with
    | nil => exact absurd rfl hne
    | cons c d => exact first_digit (hd c (by simp))
  rw [e]
  unfold numR
  rw [hF, hD, hn, hdr, hl, if_neg (by omega), if_neg (by omega)]
  rfl

theorem decF_append (a : Nat) (l m : List UInt8) : decF a (l ++ m) = decF (decF a l) m := by unfold decF; rw [List.foldl_append]
theorem dig_nat (u : Nat) (h : u < 10) : (UInt8.ofNat (48 + u)).toNat = 48 + u := by
  rw [UInt8.toNat_ofNat']; omega
theorem dig_ok (u : Nat) (h : u < 10) : digitB (UInt8.ofNat (48 + u)) = true := by rw [digit_iff, dig_nat u h]; omega
theorem dd_spec : ∀ (n u : Nat), u ≤ n → (∀ c ∈ Lib.decDigits u, digitB c = true) ∧ Lib.decDigits u ≠ [] ∧ decF 0 (Lib.decDigits u) = u := by
  intro n
  induction n with
  | zero =>
    intro u hu
    rw [Lib.decDigits_one (by omega)]
    refine ⟨fun c hc => ?_, by simp, ?_⟩
    · rw [List.mem_singleton] at hc; subst hc
      exact dig_ok u (by omega)
    · rw [decF_cons, dig_nat u (by omega)]; show 0 * 10 + (48 + u - 48) = u; omega
  | succ n ih =>
    intro u hu
    by_cases h : u < 10
    · rw [Lib.decDigits_one h]
      refine ⟨fun c hc => ?_, by simp, ?_⟩
      · rw [List.mem_singleton] at hc; subst hc
        exact dig_ok u h
      · rw [decF_cons, dig_nat u h]; show 0 * 10 + (48 + u - 48) = u; omega
    · obtain ⟨h1, h2, h3⟩ := ih (u / 10) (by omega)
      rw [dec_big h]
      refine ⟨fun c hc => ?_, by simp, ?_⟩
      · rw [List.mem_append] at hc
        rcases hc with hc | hc
        · exact h1 c hc
        · rw [List.mem_singleton] at hc; subst hc
          exact dig_ok _ (by omega)
      · rw [decF_append, h3, decF_cons, dig_nat _ (by omega)]; show u / 10 * 10 + (48 + u % 10 - 48) = u; omega
theorem four_all (r : Nat) (h : r < 10000) : ∀ c ∈ four r, digitB c = true := by
  intro c hc
  simp only [four, List.mem_cons, List.not_mem_nil, or_false] at hc
  rcases hc with rfl | rfl | rfl | rfl <;> exact dig_ok _ (by omega)
theorem four_val (a r : Nat) (h : r < 10000) : decF a (four r) = a * 10000 + r := by
  unfold four
  rw [decF_cons, decF_cons, decF_cons, decF_cons, dig_nat _ (by omega), dig_nat _ (by omega), dig_nat _ (by omega), dig_nat _ (by omega)]
  show (((a * 10 + (48 + r / 1000 - 48)) * 10 + (48 + r / 100 % 10 - 48)) * 10 + (48 + r / 10 % 10 - 48)) * 10 + (48 + r % 10 - 48) = a * 10000 + r
  omega
theorem dd_most : Lib.decDigits 9223372036854775808 = [57, 50, 50, 51, 51, 55, 50, 48, 51, 54, 56, 53, 52, 55, 55, 53, 56, 48, 56] := by
  rw [dec_big (by decide), dec_big (by decide), dec_big (by decide), dec_big (by decide), dec_big (by decide), dec_big (by decide), dec_big (by decide), dec_big (by decide), dec_big (by decide),
    dec_big (by decide), dec_big (by decide), dec_big (by decide), dec_big (by decide), dec_big (by decide), dec_big (by decide), dec_big (by decide), dec_big (by decide), dec_big (by decide), Lib.decDigits_one (by decide)]
  rfl
theorem dd_mostD : Lib.decDigits (9223372036854775808 / 10000) = [57, 50, 50, 51, 51, 55, 50, 48, 51, 54, 56, 53, 52, 55, 55] := by
  rw [dec_big (by decide), dec_big (by decide), dec_big (by decide), dec_big (by decide), dec_big (by decide), dec_big (by decide), dec_big (by decide), dec_big (by decide), dec_big (by decide),
    dec_big (by decide), dec_big (by decide), dec_big (by decide), dec_big (by decide), dec_big (by decide), Lib.decDigits_one (by decide)]
  rfl

/-! ### bytes -/
theorem hexD_ok : ∀ n : Fin 16, hexB (hexD n.val) = true ∧ nibV (hexD n.val) = n.val := by decide +kernel
theorem hexL_all (v : List UInt8) : ∀ c ∈ hexL v, hexB c = true := by
  induction v with
  | nil => intro c hc; simp [hexL] at hc
  | cons x v ih =>
    intro c hc
    have hx := UInt8.toNat_lt x
    simp only [hexL, List.mem_cons] at hc
    rcases hc with rfl | rfl | hc
    · exact (hexD_ok ⟨x.toNat / 16, by omega⟩).1
    · exact (hexD_ok ⟨x.toNat % 16, by omega⟩).1
    · exact ih c hc
theorem hexL_back (v : List UInt8) : pairB (hexL v) = v := by
  induction v with
  | nil => exact pairB_nil
  | cons x v ih =>
    have hx := UInt8.toNat_lt x
    have e1 : nibV (hexD (x.toNat / 16)) = x.toNat / 16 := (hexD_ok ⟨x.toNat / 16, by omega⟩).2
    have e2 : nibV (hexD (x.toNat % 16)) = x.toNat % 16 := (hexD_ok ⟨x.toNat % 16, by omega⟩).2
    rw [hexL, pairB_cons, ih, e1, e2]
    congr 1
    apply UInt8.toNat_inj.1
    rw [UInt8.toNat_ofNat']
    omega
theorem first_bytes {v r : List UInt8} (hl : v.length ≤ 1000) : firstR (120 :: 39 :: (hexL v ++ 39 :: r)) = (⟨3, [], 5, 0, v⟩, 3 + 2 * v.length, 0) := by
  have hq : hexQ (120 :: 39 :: (hexL v ++ 39 :: r)) = true := by simp [hexQ, Lib.hasPrefix, List.isPrefixOf]
  unfold firstR
  rw [hq, if_pos rfl]
  have hN : octN (120 :: 39 :: (hexL v ++ 39 :: r)) = 2 * v.length := by
    unfold octN
    show runN hexB (hexL v ++ 39 :: r) = _
    rw [run_app (hexL_all v) (.inr ⟨39, r, rfl, rfl⟩), hexL_len]
  unfold octR
  rw [hN]
  show (if 2 * v.length = (hexL v ++ 39 :: r).length then _ else if (hexL v ++ 39 :: r).getD (2 * v.length) 0 ≠ 39 ∨ 2 * v.length % 2 ≠ 0 then _ else if 1000 < 2 * v.length / 2 then _ else ((⟨3, [], 5, 0, pairB ((hexL v ++ 39 :: r).take (2 * v.length))⟩ : Tok), 3 + 2 * v.length, (0 : Int))) = _
  have hg : (hexL v ++ 39 :: r).getD (2 * v.length) 0 = 39 := by
    rw [List.getD_eq_getElem?_getD, List.getElem?_append_right (by rw [hexL_len]; exact Nat.le_refl _), hexL_len, Nat.sub_self]; rfl
  rw [if_neg (by rw [List.length_append, hexL_len]; simp), hg, if_neg (by simp), if_neg (by omega), ← hexL_len, take_app, hexL_back, hexL_len]

/-! ### symbols -/
theorem find_congr {α : Type} {f g : α → Bool} : ∀ {l : List α}, (∀ x ∈ l, f x = g x) → l.find? f = l.find? g
  | [], _ => rfl
  | a :: l, h => by rw [List.find?_cons, List.find?_cons, h a (by simp), find_congr (l := l) fun x hx => h x (by simp [hx])]
theorem syms_ok : ∀ s ∈ syms, s ≠ [] ∧ symR s = (⟨4, s, 0, 0, []⟩, s.length, 0) ∧ (s.getD 0 0) ≠ 120 ∧ (s.getD 0 0) ≠ 88 ∧ letterB (s.getD 0 0) = false ∧ digitB (s.getD 0 0) = false ∧ s.getD 0 0 ≠ 39 ∧ blankB (s.getD 0 0) = false ∧ (s.getD 0 0 = 45 → s = [45]) := by
  intro s hs
  simp only [syms, List.mem_cons, List.not_mem_nil, or_false] at hs
  rcases hs with rfl | rfl | rfl | rfl | rfl | rfl | rfl | rfl | rfl | rfl | rfl | rfl | rfl | rfl | rfl <;> (refine ⟨by simp, rfl, ?_⟩; decide +kernel)
theorem syms_blank : ∀ s ∈ syms, ∀ c ∈ s, blankB c = false := by decide +kernel
theorem first_sym {s r : List UInt8} (hs : s ∈ syms) (hr : Stop r) : firstR (s ++ r) = (⟨4, s, 0, 0, []⟩, s.length, 0) := by
  obtain ⟨h0, h1, h2, h3, h4, h5, h6, _⟩ := syms_ok s hs
  have hg : (s ++ r).getD 0 0 = s.getD 0 0 := by
    cases s with
    | nil => exact absurd rfl h0
    | cons c s => rfl
  have hq : hexQ (s ++ r) = false := by unfold hexQ; rw [hg]; simp only [beq_eq_false_iff_ne.2 h2, beq_eq_false_iff_ne.2 h3, Bool.or_self, Bool.false_and]
  unfold firstR
  rw [hq, hg, if_neg (by simp), if_neg (by simp only [h4]; simp), if_neg (by simp only [h5]; simp), if_neg h6]
  rw [← h1]
  unfold symR
  rw [find_congr (f := fun p => Lib.hasPrefix (s ++ r) p) (g := fun p => Lib.hasPrefix s p) fun p hp => prefix_stop hr p s (syms_blank p hp)]

end Go.Proofs.YtlmjijiepnefdaaGreatDoor
