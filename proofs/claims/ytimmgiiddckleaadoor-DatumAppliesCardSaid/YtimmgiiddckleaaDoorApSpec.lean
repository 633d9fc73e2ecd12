/-
  What the operators make of values, as plain functions: kind, number, error.
-/
import Derived.Test.YtimmgiiddckleaaDoorRefL
import Derived.Test.YtimmgiiddckleaaDoorRefTwo
import Derived.Test.YtimmgiiddckleaaDoorCnt
namespace Go.Proofs.YtimmgiiddckleaaDoor
open Go.RowKit

abbrev Tri := Int × Int × Int
/-- A value without a text and an error come back; memory of its own alone is made. -/
def ResT (t : Tri) (w : World) : Ending → World → Prop := ResPost t.1 t.2.1 t.2.2 w
def fitT (kind z : Int) : Tri := (fitK kind z, fitI z, fitE z)

def lenR (d : Dat) : Tri := if d.k = 0 then (0, 0, 0) else if d.k < 4 then (0, 0, 5) else if d.k = 4 then (2, (runeC d.s 0 : Int), 0) else (2, (d.s.size : Int), 0)
def cmpZ (a b : Dat) : Int := ordI (numZ a.k a.i) (numZ b.k b.i)
def relR (op : Int) (a b : Dat) : Tri :=
  if a.k = 0 ∨ b.k = 0 then (0, 0, 0) else if numB a.k && numB b.k then (1, bitOf (holdsB op (cmpZ a b)), 0) else if a.k ≠ b.k then (0, 0, 5) else (1, bitOf (holdsB op (cmpD a b)), 0)
def twoR (op kind unit z1 z2 : Int) : Tri :=
  if op = 3 then fitT kind (z1 + z2) else if op = 4 then fitT kind (z1 + -z2) else if op = 5 then fitT kind ((z1 * z2).tdiv unit) else if z2 = 0 then (0, 0, 4) else fitT kind ((z1 * unit).tdiv z2)
def binR (op : Int) (a b : Dat) : Tri :=
  if onlyR 2 3 [a, b] = false then (0, 0, 5) else if a.k = 0 ∨ b.k = 0 then (0, 0, 0) else if a.k = 2 ∧ b.k = 2 then twoR op 2 1 a.i b.i
  else if (fitsB (numZ a.k a.i) && fitsB (numZ b.k b.i)) = false then (0, 0, 4) else twoR op 3 10000 (numZ a.k a.i) (numZ b.k b.i)
def unR (op : Int) (a : Dat) : Tri :=
  if okEl 2 3 a = false then (0, 0, 5) else if a.k = 0 then (0, 0, 0) else if op = 20 then fitT 3 (numZ a.k a.i) else if op = 1 ∨ a.i < 0 then fitT a.k (-a.i) else (a.k, a.i, 0)
def oneR (op : Int) (a : Dat) : Tri := if op = 15 then (1, bitOf (a.k == 0), 0) else if op = 2 then notR a.k a.i else if op = 18 then lenR a else unR op a
def bothR (op : Int) (a b : Dat) : Tri := if op = 13 then joinR a.k a.i b.k b.i 0 else if op = 14 then joinR a.k a.i b.k b.i 1 else if 7 ≤ op ∧ op ≤ 12 then relR op a b else binR op a b
/-- Apply. -/
def appR (op : Int) (L : List Dat) : Tri :=
  if arityR op = 0 ∨ (L.length : Int) ≠ arityR op ∨ L.all rightD = false then (0, 0, 1) else match L with
  | [a] => oneR op a
  | [a, b] => bothR op a b
  | _ => (0, 0, 1)

def nullD : Dat := ⟨0, 0, noText⟩
def boolD (i : Int) : Dat := ⟨1, i, noText⟩

theorem size_none {s : ByteArray} (h : s.size = 0) : s = noText := ba_empty' h rfl
theorem right_null {d : Dat} (h : rightD d = true) (hk : d.k = 0) : d = nullD := by
  obtain ⟨k, i, s⟩ := d
  obtain ⟨h1, h2⟩ := rightD_null _ h hk
  simp only at hk h1 h2
  rw [hk, h1, size_none h2]; rfl
theorem right_bool {d : Dat} (h : rightD d = true) (hk : d.k = 1) : d = boolD 0 ∨ d = boolD 1 := by
  obtain ⟨k, i, s⟩ := d
  obtain ⟨h1, h2⟩ := rightD_bool _ h hk
  simp only at hk h1 h2
  rw [hk, size_none h2]
  rcases h1 with h1 | h1 <;> rw [h1]
  · exact .inl rfl
  · exact .inr rfl
theorem right_num {d : Dat} (h : rightD d = true) (hk : d.k = 2 ∨ d.k = 3) : d.s = noText := size_none (rightD_num d h hk)

theorem has_null1 {a : Dat} (ha : rightD a = true) : hasR nullD [a] = decide (a.k = 0) := by
  unfold hasR
  simp only [List.any_cons, List.any_nil, Bool.or_false]
  by_cases hk : a.k = 0
  · rw [right_null ha hk]; rfl
  · rw [decide_eq_false hk, decide_eq_false (fun h => hk h.1)]
theorem has_null2 {a b : Dat} (ha : rightD a = true) (hb : rightD b = true) : hasR nullD [a, b] = decide (a.k = 0 ∨ b.k = 0) := by
  have h1 := has_null1 ha
  have h2 := has_null1 hb
  unfold hasR at *
  simp only [List.any_cons, List.any_nil, Bool.or_false] at *
  rw [h1, h2, Bool.eq_iff_iff]
  simp

/-- AND and OR, by what only and has tell. -/
theorem join_eq {a b : Dat} (ha : rightD a = true) (hb : rightD b = true) (st : Int) (hs : st = 0 ∨ st = 1) :
    joinR a.k a.i b.k b.i st = if onlyR 1 1 [a, b] = false then (0, 0, 5) else if hasR (boolD st) [a, b] = true then (1, bitOf (st == 1), 0) else if hasR nullD [a, b] = true then (0, 0, 0) else (1, bitOf (st == 0), 0) := by
  have key : ∀ d : Dat, rightD d = true → d.k = 0 ∨ d.k = 1 → d = nullD ∨ d = boolD 0 ∨ d = boolD 1 := fun d hd hk => by
    rcases hk with hk | hk
    · exact .inl (right_null hd hk)
    · exact .inr (right_bool hd hk)
  by_cases h1 : a.k = 0 ∨ a.k = 1
  · by_cases h2 : b.k = 0 ∨ b.k = 1
    · rcases key a ha h1 with rfl | rfl | rfl <;> rcases key b hb h2 with rfl | rfl | rfl <;> rcases hs with rfl | rfl <;> decide
    · have e : onlyR 1 1 [a, b] = false := by
        unfold onlyR okEl
        simp only [List.all_cons, List.all_nil, Bool.and_true]
        rw [Bool.and_eq_false_iff]
        right
        simp; omega
      rw [if_pos e]
      unfold joinR
      split
      · rfl
      · rw [if_pos (by simp; omega)]
  · have e : onlyR 1 1 [a, b] = false := by
      unfold onlyR okEl
      simp only [List.all_cons, List.all_nil, Bool.and_true]
      rw [Bool.and_eq_false_iff]
      left
      simp; omega
    rw [if_pos e]
    unfold joinR
    rw [if_pos (by simp; omega)]
theorem not_eq (a : Dat) : notR a.k a.i = if onlyR 1 1 [a] = false then (0, 0, 5) else if a.k = 0 then (0, 0, 0) else (1, bitOf (a.i == 0), 0) := by
  unfold notR onlyR okEl
  simp only [List.all_cons, List.all_nil, Bool.and_true, decide_eq_false_iff_not, beq_iff_eq]
  by_cases h0 : a.k = 0
  · rw [if_pos h0, if_neg (by omega), if_pos h0]
  · by_cases h1 : a.k = 1
    · rw [if_neg h0, if_pos h1, if_neg (by omega), if_neg h0]
    · rw [if_neg h0, if_neg h1, if_pos (by omega)]

end Go.Proofs.YtimmgiiddckleaaDoor
