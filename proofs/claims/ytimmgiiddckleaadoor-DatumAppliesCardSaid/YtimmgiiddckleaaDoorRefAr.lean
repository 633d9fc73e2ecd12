/-
  The reference's arithmetic: a number as a whole one, what has room, and the four operations on two numbers.
-/
import Derived.Test.YtimmgiiddckleaaDoorOver
import Derived.Test.YtimmgiiddckleaaDoorBig6
import Derived.Test.YtimmgiiddckleaaDoorRecP
namespace Go.Proofs.YtimmgiiddckleaaDoor
open Go.RowKit

def fitK (kind z : Int) : Int := if fitsB z then kind else 0
def fitI (z : Int) : Int := if fitsB z then z else 0
def fitE (z : Int) : Int := if fitsB z then 0 else 4
/-- A number of that kind, if it has room; else the error 4. -/
def FitRes (kind z : Int) (w : World) : Ending → World → Prop := ResPost (fitK kind z) (fitI z) (fitE z) w

theorem big_len {m : Bool} {L : List Int} {z : Int} {n : Nat} (h : Norm L) (hz : zOf m L = z) (h0 : -pw n < z) (h1 : z < pw n) : L.length ≤ n := by
  refine h.len_of ?_
  unfold zOf at hz
  cases m
  · have : valD L = z := hz
    omega
  · have : -valD L = z := hz
    omega

theorem big_of (i : Int) (w : World) (h0 : -9223372036854775808 ≤ i) (h1 : i ≤ 9223372036854775807) :
    Calls Tryd.prog 58 #[.int .i64 i] w (BigPost i w) := by
  refine (of_any i w h0 h1).mono ?_
  rintro e w' ⟨v', L, rfl, hD, hN, hV, hB⟩
  refine ⟨_, v', L, rfl, hD, hN, ?_, hB⟩
  by_cases hi : i < 0
  · rw [decide_eq_true hi]
    show -valD L = i
    rw [hV, if_pos hi]; omega
  · rw [decide_eq_false hi]
    show valD L = i
    rw [hV, if_neg hi]

theorem big_times (m1 m2 : Bool) (v1 v2 : Value) (L1 L2 : List Int) (w : World) (h1 : DigV w v1 L1) (h2 : DigV w v2 L2) (n1 : Norm L1) (n2 : Norm L2) (hl : L1.length + L2.length ≤ 5000) (z1 z2 : Int) (e1 : zOf m1 L1 = z1) (e2 : zOf m2 L2 = z2) :
    Calls Tryd.prog 76 #[.agg #[.bool m1, v1], .agg #[.bool m2, v2]] w (BigPost (z1 * z2) w) := by
  have h := bigTimes_any m1 m2 v1 v2 L1 L2 w h1 h2 n1.1 n2.1 hl
  rw [e1, e2] at h
  exact h
/-- A whole number, the sign of which stands where it is not 0 alone. -/
def BigPost2 (z : Int) (w : World) (e : Ending) (w' : World) : Prop := ∃ m sl L, e = .returned (.agg #[.bool m, sl]) ∧ DigB w' w.heap.size sl L ∧ Norm L ∧ zOf m L = z ∧ (m = true → 0 < L.length) ∧ Below w.heap.size w w'
theorem BigPost2.weak {z : Int} {w : World} {e : Ending} {w' : World} (h : BigPost2 z w e w') : BigPost z w e w' := by
  obtain ⟨m, sl, L, h1, h2, h3, h4, _, h6⟩ := h
  exact ⟨m, sl, L, h1, h2, h3, h4, h6⟩
theorem big_of2 (i : Int) (w : World) (h0 : -9223372036854775808 ≤ i) (h1 : i ≤ 9223372036854775807) :
    Calls Tryd.prog 58 #[.int .i64 i] w (BigPost2 i w) := by
  refine (of_any i w h0 h1).mono ?_
  rintro e w' ⟨v', L, rfl, hD, hN, hV, hB⟩
  by_cases hi : i < 0
  · refine ⟨_, _, _, rfl, hD, hN, ?_, fun _ => ?_, hB⟩
    · rw [decide_eq_true hi]
      show -valD L = i
      rw [hV, if_pos hi]; omega
    · rw [if_pos hi] at hV
      cases L with
      | nil => have : valD [] = 0 := rfl; omega
      | cons x t => simp
  · refine ⟨_, _, _, rfl, hD, hN, ?_, fun h => ?_, hB⟩
    · rw [decide_eq_false hi]
      show valD L = i
      rw [hV, if_neg hi]
    · rw [decide_eq_false hi] at h
      cases h
theorem big_times2 (m1 m2 : Bool) (v1 v2 : Value) (L1 L2 : List Int) (w : World) (h1 : DigV w v1 L1) (h2 : DigV w v2 L2) (n1 : Norm L1) (n2 : Norm L2) (hl : L1.length + L2.length ≤ 5000) (z1 z2 : Int) (e1 : zOf m1 L1 = z1) (e2 : zOf m2 L2 = z2) :
    Calls Tryd.prog 76 #[.agg #[.bool m1, v1], .agg #[.bool m2, v2]] w (BigPost2 (z1 * z2) w) := by
  refine (times_any m1 m2 v1 v2 L1 L2 w h1 h2 n1.1 n2.1 hl).mono ?_
  rintro e w' ⟨v', L, rfl, hD, hN, hV, hB⟩
  refine ⟨_, v', L, rfl, hD, hN, ?_, fun h => ?_, hB⟩
  · subst e1 e2
    cases m1 <;> cases m2
    · show valD L = valD L1 * valD L2
      exact hV
    · show zOf (decide (0 < L.length)) L = valD L1 * -valD L2
      rw [zOf_dec, hV, Int.mul_neg]
    · show zOf (decide (0 < L.length)) L = -valD L1 * valD L2
      rw [zOf_dec, hV, Int.neg_mul]
    · show valD L = -valD L1 * -valD L2
      rw [hV, Int.neg_mul_neg]
  · rw [Bool.and_eq_true] at h
    exact of_decide_eq_true h.2
theorem big_plus (m1 m2 : Bool) (v1 v2 : Value) (L1 L2 : List Int) (w : World) (h1 : DigV w v1 L1) (h2 : DigV w v2 L2) (n1 : Norm L1) (n2 : Norm L2) (l1 : L1.length ≤ 5000) (l2 : L2.length ≤ 5000) (z1 z2 : Int) (e1 : zOf m1 L1 = z1) (e2 : zOf m2 L2 = z2) :
    Calls Tryd.prog 78 #[.agg #[.bool m1, v1], .agg #[.bool m2, v2]] w (BigPost (z1 + z2) w) := by
  have h := bigPlus_any m1 m2 v1 v2 L1 L2 w h1 h2 n1 n2 l1 l2
  rw [e1, e2] at h
  exact h
theorem big_minus (m : Bool) (v : Value) (L : List Int) (w : World) (h : DigV w v L) (z : Int) (e : zOf m L = z) :
    Calls Tryd.prog 57 #[.agg #[.bool m, v]] w fun e w' => ∃ m', e = .returned (.agg #[.bool m', v]) ∧ zOf m' L = -z ∧ Below w.heap.size w w' := by
  refine (minus_any m v L w h).mono ?_
  rintro e' w' ⟨rfl, hB⟩
  refine ⟨_, rfl, ?_, hB⟩
  subst e
  cases m
  · show zOf (decide (0 < L.length)) L = -valD L
    exact zOf_dec L
  · show valD L = - -valD L
    omega
theorem fits_f (m : Bool) (v : Value) (L : List Int) (w : World) (h : DigV w v L) (hn : Norm L) (hl : L.length ≤ 5000) (z : Int) (e : zOf m L = z) :
    Calls Tryd.prog 55 #[.agg #[.bool m, v]] w fun e w' => e = .returned (.tuple #[.int .i64 (fitI z), .bool (fitsB z)]) ∧ Below w.heap.size w w' := by
  subst e
  exact fits_any m v L w h hn hl
theorem over_f (m1 m2 : Bool) (v1 v2 : Value) (L1 L2 : List Int) (w : World) (h1 : DigV w v1 L1) (h2 : DigV w v2 L2) (n1 : Norm L1) (n2 : Norm L2) (l1 : L1.length ≤ 1000) (l2 : L2.length ≤ 1000) (z1 z2 : Int) (e1 : zOf m1 L1 = z1) (e2 : zOf m2 L2 = z2) (hy : z2 ≠ 0) :
    Calls Tryd.prog 79 #[.agg #[.bool m1, v1], .agg #[.bool m2, v2]] w fun e w' => e = .returned (.tuple #[.int .i64 (fitI (z1.tdiv z2)), .bool (fitsB (z1.tdiv z2))]) ∧ Below w.heap.size w w' := by
  subst e1 e2
  refine over_any m1 m2 v1 v2 L1 L2 w h1 h2 n1 n2 l1 l2 ?_
  have := (valD_bound n2.1).1
  unfold zOf at hy
  cases m2
  · have : valD L2 ≠ 0 := hy
    omega
  · have : -valD L2 ≠ 0 := hy
    omega

set_option maxRecDepth 100000 in
set_option maxHeartbeats 4000000 in
theorem result_yes (kind i : Int) (w : World) :
    Calls Tryd.prog 56 #[.int .i64 kind, .int .i64 i, .bool true] w (ResPost kind i 0 w) := by
  have hB0 := Lib.hid (Blk.new w #[.int .i64 0, .int .i64 0, .string noText] 24)
  go_enter Tryd.func56, Tryd.ntmps56
  go_wp2
  refine bodyPost_ret (v := .tuple #[.agg #[.int .i64 kind, .int .i64 i, .string noText], .int .i64 0]) ?_ rfl ⟨rfl, ?_⟩
  · simp [results, Tryd.results56, go_sem]
  · exact (Below.refl _ _).alloc (Nat.le_refl _) _

set_option maxRecDepth 100000 in
set_option maxHeartbeats 4000000 in
theorem result_no (kind i : Int) (w : World) :
    Calls Tryd.prog 56 #[.int .i64 kind, .int .i64 i, .bool false] w (ResPost 0 0 4 w) := by
  go_enter Tryd.func56, Tryd.ntmps56
  go_wp2
  refine bodyPost_ret (v := .tuple #[.agg #[.int .i64 0, .int .i64 0, .string noText], .int .i64 4]) ?_ rfl ⟨rfl, ?_⟩
  · simp [results, Tryd.results56, go_sem]
  · exact (Below.refl _ _).alloc (Nat.le_refl _) _

theorem result_f (kind z : Int) (w : World) :
    Calls Tryd.prog 56 #[.int .i64 kind, .int .i64 (fitI z), .bool (fitsB z)] w (FitRes kind z w) := by
  unfold FitRes fitK fitI fitE
  cases fitsB z
  · exact result_no _ _ _
  · exact result_yes _ _ _

/-- What a number times ten thousand is. -/
def numZ (k i : Int) : Int := if k = 2 then i * 10000 else i

set_option maxRecDepth 100000 in
set_option maxHeartbeats 4000000 in
theorem number_int (i : Int) (s : ByteArray) (w : World) (h0 : -9223372036854775808 ≤ i) (h1 : i ≤ 9223372036854775807) :
    Calls Tryd.prog 54 #[.agg #[.int .i64 2, .int .i64 i, .string s]] w (BigPost2 (i * 10000) w) := by
  have HOF := Lib.hid (fun w => big_of i w h0 h1)
  have hb2 := ((Below.refl w.heap.size w).alloc (Nat.le_refl _) (Obj.cells #[.int .i64 2, .int .i64 i, .string s] 24)).alloc (by simp) (Obj.cells #[Value.bool false, Value.slice none 0 0] 74)
  have bR : Blk ((w.alloc (Obj.cells #[.int .i64 2, .int .i64 i, .string s] 24)).alloc (Obj.cells #[Value.bool false, Value.slice none 0 0] 74)) (w.heap.size + 1) _ _ := Blk.atB (by simp)
  go_enter Tryd.func54, Tryd.ntmps54
  go_wp2_with (first
    | (go_at_call 58; (with_reducible refine (HOF.out _).mono ?_); rintro e w3 ⟨m3, v3, L3, rfl, hd3, hn3, hz3, hb3⟩; obtain ⟨A3, c3, rfl, _, _⟩ := DigV.open hd3.1; have l3 := big_len (n := 4) hn3 hz3 (by have e : pw 4 = 1000000000000000000000000 := (by decide); omega) (by have e : pw 4 = 1000000000000000000000000 := (by decide); omega))
    | (go_at_call 58; (with_reducible refine (big_of 10000 _ (by decide) (by decide)).mono ?_); rintro e w4 ⟨m4, v4, L4, rfl, hd4, hn4, hz4, hb4⟩; obtain ⟨A4, c4, rfl, _, _⟩ := DigV.open hd4.1; have l4 := big_len (n := 4) hn4 hz4 (by have e : pw 4 = 1000000000000000000000000 := (by decide); omega) (by have e : pw 4 = 1000000000000000000000000 := (by decide); omega))
    | (go_at_call 76; have hT := big_times2 m3 m4 _ _ L3 L4 w4 (hd3.1.below hb4) hd4.1 hn3 hn4 (by omega) _ _ hz3 hz4; (with_reducible refine hT.mono ?_); clear hT; rintro e w5 ⟨m5, v5, L5, rfl, hd5, hn5, hz5, hs5, hb5⟩; obtain ⟨A5, c5, rfl, _, _⟩ := DigV.open hd5.1; have bR5 := (((bR.below hb3).below hb4).below hb5); have q3 := hb3.size; have q4 := hb4.size; have r0 := bR5.cell 0; have r1 := bR5.cell 1; have f0 := bR5.frozen 0; have f1 := bR5.frozen 1; simp only [List.getElem?_toArray, List.getElem?_cons_zero, List.getElem?_cons_succ] at r0 r1))
  have bR4 := (bR.below hb3).below hb4
  have lR := bR4.lt
  have bF := (bR5.set 0 (.bool m5)).set 1 (.slice A5 L5.length c5)
  have d0 := bF.cell 0
  have d1 := bF.cell 1
  simp only [List.setIfInBounds_toArray, List.set_cons_zero, List.set_cons_succ, List.getElem?_toArray, List.getElem?_cons_zero, List.getElem?_cons_succ] at d0 d1
  refine bodyPost_ret (v := .agg #[.bool m5, .slice A5 L5.length c5]) (by simp [results, Tryd.results54, go_sem, d0, d1]) rfl ⟨_, _, _, rfl, ((hd5.set lR).set lR).more (by omega), hn5, hz5, hs5, ?_⟩
  exact ((((hb2.trans (hb3.mono hb2.size)).trans (hb4.mono (hb2.trans (hb3.mono hb2.size)).size)).trans (hb5.mono ((hb2.trans (hb3.mono hb2.size)).trans (hb4.mono (hb2.trans (hb3.mono hb2.size)).size)).size)).setCell (by simp) _).setCell (by simp) _

set_option maxRecDepth 100000 in
set_option maxHeartbeats 4000000 in
theorem number_dec (k i : Int) (s : ByteArray) (w : World) (hk : k ≠ 2) (h0 : -9223372036854775808 ≤ i) (h1 : i ≤ 9223372036854775807) :
    Calls Tryd.prog 54 #[.agg #[.int .i64 k, .int .i64 i, .string s]] w (BigPost2 i w) := by
  have HOF := Lib.hid (fun w => big_of2 i w h0 h1)
  have hk' : (k == 2) = false := by simpa using hk
  have hb2 := ((Below.refl w.heap.size w).alloc (Nat.le_refl _) (Obj.cells #[.int .i64 k, .int .i64 i, .string s] 24)).alloc (by simp) (Obj.cells #[Value.bool false, Value.slice none 0 0] 74)
  have bR : Blk ((w.alloc (Obj.cells #[.int .i64 k, .int .i64 i, .string s] 24)).alloc (Obj.cells #[Value.bool false, Value.slice none 0 0] 74)) (w.heap.size + 1) _ _ := Blk.atB (by simp)
  clear hk
  go_enter Tryd.func54, Tryd.ntmps54
  go_wp2_with (go_at_call 58; (with_reducible refine (HOF.out _).mono ?_); rintro e w5 ⟨m5, v5, L5, rfl, hd5, hn5, hz5, hs5, hb5⟩; obtain ⟨A5, c5, rfl, _, _⟩ := DigV.open hd5.1; have bR5 := bR.below hb5; have r0 := bR5.cell 0; have r1 := bR5.cell 1; have f0 := bR5.frozen 0; have f1 := bR5.frozen 1; simp only [List.getElem?_toArray, List.getElem?_cons_zero, List.getElem?_cons_succ] at r0 r1)
  have lR := bR.lt
  have bF := (bR5.set 0 (.bool m5)).set 1 (.slice A5 L5.length c5)
  have d0 := bF.cell 0
  have d1 := bF.cell 1
  simp only [List.setIfInBounds_toArray, List.set_cons_zero, List.set_cons_succ, List.getElem?_toArray, List.getElem?_cons_zero, List.getElem?_cons_succ] at d0 d1
  refine bodyPost_ret (v := .agg #[.bool m5, .slice A5 L5.length c5]) (by simp [results, Tryd.results54, go_sem, d0, d1]) rfl ⟨_, _, _, rfl, ((hd5.set lR).set lR).more (by simp; try omega), hn5, hz5, hs5, ?_⟩
  exact ((hb2.trans (hb5.mono hb2.size)).setCell (by simp) _).setCell (by simp) _

theorem number_f2 (k i : Int) (s : ByteArray) (w : World) (h0 : -9223372036854775808 ≤ i) (h1 : i ≤ 9223372036854775807) :
    Calls Tryd.prog 54 #[.agg #[.int .i64 k, .int .i64 i, .string s]] w (BigPost2 (numZ k i) w) := by
  unfold numZ
  by_cases hk : k = 2
  · subst hk
    rw [if_pos rfl]
    exact number_int i s w h0 h1
  · rw [if_neg hk]
    exact number_dec k i s w hk h0 h1

theorem number_f (k i : Int) (s : ByteArray) (w : World) (h0 : -9223372036854775808 ≤ i) (h1 : i ≤ 9223372036854775807) :
    Calls Tryd.prog 54 #[.agg #[.int .i64 k, .int .i64 i, .string s]] w (BigPost (numZ k i) w) :=
  (number_f2 k i s w h0 h1).mono fun _ _ h => h.weak

/-- A bound for what the reference reckons with. -/
def InZ (z : Int) : Prop := -100000000000000000000000 ≤ z ∧ z ≤ 100000000000000000000000
theorem inz_mul {a b : Int} (ha : InZ a) (hb : InZ b) : -pw 8 < a * b ∧ a * b < pw 8 := by
  have e : pw 8 = 1000000000000000000000000000000000000000000000000 := by decide
  rw [e]
  unfold InZ at ha hb
  have h1 : (a * b).natAbs = a.natAbs * b.natAbs := Int.natAbs_mul a b
  have h2 : a.natAbs * b.natAbs ≤ 100000000000000000000000 * 100000000000000000000000 := Nat.mul_le_mul (by omega) (by omega)
  omega
theorem inz_pw {a : Int} (ha : InZ a) : -pw 4 < a ∧ a < pw 4 := by
  have e : pw 4 = 1000000000000000000000000 := by decide
  rw [e]
  unfold InZ at ha
  omega
theorem inz_sum {a b : Int} (ha : InZ a) (hb : InZ b) : -pw 4 < a + b ∧ a + b < pw 4 := by
  have e : pw 4 = 1000000000000000000000000 := by decide
  rw [e]
  unfold InZ at ha hb
  omega
theorem inz_neg {a : Int} (ha : InZ a) : InZ (-a) := by
  unfold InZ at *
  omega

end Go.Proofs.YtimmgiiddckleaaDoor
