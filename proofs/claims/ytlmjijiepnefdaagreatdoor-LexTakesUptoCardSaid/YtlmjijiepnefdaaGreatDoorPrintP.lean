/-
  How a value is written as a literal, as plain lists of bytes.
-/
import Derived.Lib.ReplaceLaws
import Derived.Lib.Replace
import Derived.Lib.ItoaMem
namespace Go.Proofs.YtlmjijiepnefdaaGreatDoor
open Go

/-- A text's bytes, each apostrophe twice. -/
def quoteL : List UInt8 → List UInt8
  | [] => []
  | c :: l => (if c = 39 then [39, 39] else [c]) ++ quoteL l

theorem quoteL_append (a b : List UInt8) : quoteL (a ++ b) = quoteL a ++ quoteL b := by
  induction a with
  | nil => rfl
  | cons c l ih => simp [quoteL, ih]

theorem quoteL_len (l : List UInt8) : (quoteL l).length ≤ 2 * l.length := by
  induction l with
  | nil => simp [quoteL]
  | cons c l ih => rw [quoteL, List.length_append, List.length_cons]; split <;> simp <;> omega

theorem index_ne (b : UInt8) (l : List UInt8) (h : b ≠ 39) : Lib.index (b :: l) [39] = if Lib.index l [39] = -1 then -1 else Lib.index l [39] + 1 := by
  rw [Lib.index]
  have hp : ([39] : List UInt8).isPrefixOf (b :: l) = false := by
    simp [List.isPrefixOf]; exact fun e => h e.symm
  rw [hp]
  simp

theorem index_eq (l : List UInt8) : Lib.index (39 :: l) [39] = 0 := by
  rw [Lib.index]; simp [List.isPrefixOf]

theorem replaceK_ne (k : Nat) (b : UInt8) (l : List UInt8) (h : b ≠ 39) : Lib.replaceK [39] [39, 39] k (b :: l) = b :: Lib.replaceK [39] [39, 39] k l := by
  cases k with
  | zero => rfl
  | succ k =>
    have hge := Lib.index_ge l [39]
    by_cases hm : Lib.index l [39] = -1
    · rw [Lib.replaceK, Lib.replaceK, index_ne b l h, if_pos hm]; simp [hm]
    · obtain ⟨i, hi⟩ : ∃ i : Nat, Lib.index l [39] = i := ⟨(Lib.index l [39]).toNat, by omega⟩
      have h1 : Lib.index (b :: l) [39] = ((i + 1 : Nat) : Int) := by rw [index_ne b l h, if_neg hm, hi]; omega
      rw [Lib.replaceK_hit _ _ _ _ _ h1, Lib.replaceK_hit _ _ _ _ _ hi]
      simp

theorem replaceK_quote : ∀ (l : List UInt8) (k : Nat), l.count 39 ≤ k → Lib.replaceK [39] [39, 39] k l = quoteL l
  | [], k, _ => by
    cases k with
    | zero => rfl
    | succ k => rw [Lib.replaceK]; simp [Lib.index, quoteL]
  | b :: l, k, hk => by
    by_cases h : b = 39
    · subst h
      cases k with
      | zero => simp at hk
      | succ k =>
        rw [Lib.replaceK_hit _ _ k _ 0 (index_eq l)]
        simp only [List.take_zero, List.nil_append, List.length_cons, List.length_nil, Nat.zero_add, List.drop_succ_cons, List.drop_zero]
        rw [replaceK_quote l k (by simpa using hk)]
        rfl
    · rw [replaceK_ne k b l h, replaceK_quote l k (by rw [List.count_cons] at hk; omega), quoteL, if_neg h]
      rfl

theorem replaceAll_quote (l : List UInt8) : Lib.replaceAll l [39] [39, 39] = quoteL l := by
  unfold Lib.replaceAll Lib.replace Lib.replaceNum
  rw [if_neg (by decide), if_pos (.inl (by decide)), Lib.count_one]
  exact replaceK_quote l _ (Nat.le_refl _)

/-- The digit of sixteen. -/
def hexD (n : Nat) : UInt8 := if n < 10 then UInt8.ofNat (48 + n) else UInt8.ofNat (87 + n)

/-- Each byte's two digits of sixteen. -/
def hexL : List UInt8 → List UInt8
  | [] => []
  | c :: l => hexD (c.toNat / 16) :: hexD (c.toNat % 16) :: hexL l

theorem hexL_append (a b : List UInt8) : hexL (a ++ b) = hexL a ++ hexL b := by
  induction a with
  | nil => rfl
  | cons c l ih => simp [hexL, ih]

theorem hexL_len (l : List UInt8) : (hexL l).length = 2 * l.length := by
  induction l with
  | nil => rfl
  | cons c l ih => rw [hexL, List.length_cons, List.length_cons, ih, List.length_cons]; omega

/-- Four digits of ten. -/
def four (r : Nat) : List UInt8 := [UInt8.ofNat (48 + r / 1000), UInt8.ofNat (48 + r / 100 % 10), UInt8.ofNat (48 + r / 10 % 10), UInt8.ofNat (48 + r % 10)]

theorem dec_big {u : Nat} (h : ¬ u < 10) : Lib.decDigits u = Lib.decDigits (u / 10) ++ [UInt8.ofNat (48 + u % 10)] := by
  rw [Lib.decDigits, dif_neg h]

theorem dec_10000 (r : Nat) (h : r < 10000) : Lib.decDigits (r + 10000) = 49 :: four r := by
  rw [dec_big (by omega), dec_big (by omega), dec_big (by omega), dec_big (by omega), Lib.decDigits_one (by omega)]
  have e1 : (r + 10000) / 10 / 10 / 10 / 10 = 1 := by omega
  have e2 : (r + 10000) / 10 / 10 / 10 % 10 = r / 1000 := by omega
  have e3 : (r + 10000) / 10 / 10 % 10 = r / 100 % 10 := by omega
  have e4 : (r + 10000) / 10 % 10 = r / 10 % 10 := by omega
  have e5 : (r + 10000) % 10 = r % 10 := by omega
  rw [e1, e2, e3, e4, e5]
  rfl

theorem dec_one {r : Nat} (h : r < 10) : 48 :: 48 :: 48 :: Lib.decDigits r = four r := by
  rw [Lib.decDigits_one h]; unfold four
  rw [show r / 1000 = 0 by omega, show r / 100 % 10 = 0 by omega, show r / 10 % 10 = 0 by omega, show r % 10 = r by omega]; rfl
theorem dec_two {r : Nat} (h1 : 10 ≤ r) (h : r < 100) : 48 :: 48 :: Lib.decDigits r = four r := by
  rw [dec_big (by omega), Lib.decDigits_one (by omega)]; unfold four
  rw [show r / 1000 = 0 by omega, show r / 100 % 10 = 0 by omega, show r / 10 % 10 = r / 10 by omega]; rfl
theorem dec_three {r : Nat} (h1 : 100 ≤ r) (h : r < 1000) : 48 :: Lib.decDigits r = four r := by
  rw [dec_big (by omega), dec_big (by omega), Lib.decDigits_one (by omega)]; unfold four
  rw [show r / 1000 = 0 by omega, show r / 10 / 10 = r / 100 % 10 by omega]; rfl
theorem dec_four {r : Nat} (h1 : 1000 ≤ r) (h : r < 10000) : Lib.decDigits r = four r := by
  rw [dec_big (by omega), dec_big (by omega), dec_big (by omega), Lib.decDigits_one (by omega)]; unfold four
  rw [show r / 10 / 10 / 10 = r / 1000 by omega, show r / 10 / 10 % 10 = r / 100 % 10 by omega]; rfl

theorem dec_len {r : Nat} : (r < 10 → (Lib.decDigits r).length = 1) ∧ (10 ≤ r → r < 100 → (Lib.decDigits r).length = 2) ∧ (100 ≤ r → r < 1000 → (Lib.decDigits r).length = 3) ∧ (1000 ≤ r → r < 10000 → (Lib.decDigits r).length = 4) := by
  refine ⟨fun h => ?_, fun h1 h => ?_, fun h1 h => ?_, fun h1 h => ?_⟩
  · rw [Lib.decDigits_one h]; rfl
  · have := congrArg List.length (dec_two h1 h); simp [four] at this; omega
  · have := congrArg List.length (dec_three h1 h); simp [four] at this; omega
  · rw [dec_four h1 h]; rfl

/-- A DEC's literal. -/
def decL (i : Int) : List UInt8 := (if i < 0 then [45] else []) ++ (Lib.decDigits (i.natAbs / 10000) ++ 46 :: four (i.natAbs % 10000))

/-- A value's literal, if it may be. -/
def litL (k i : Int) (s : List UInt8) : List UInt8 :=
  if k = 0 then [78, 85, 76, 76]
  else if k = 1 then (if i = 1 then [84, 82, 85, 69] else [70, 65, 76, 83, 69])
  else if k = 2 then Lib.itoa i
  else if k = 3 then decL i
  else if k = 4 then 39 :: (quoteL s ++ [39])
  else 120 :: 39 :: (hexL s ++ [39])

end Go.Proofs.YtlmjijiepnefdaaGreatDoor
