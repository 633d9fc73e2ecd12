/-
  The program's parts of Apply, by the same plain functions as the reference's.
  The program's reckon where an operand is NULL or no number.
  The reference's Apply, at any values.
  The program's Apply, at any values.
-/
import Derived.Test.YtimmgiiddckleaaDoorApSpec
import Derived.Test.YtimmgiiddckleaaDoorRel2
import Derived.Test.YtimmgiiddckleaaDoorChange
import Derived.Test.YtimmgiiddckleaaDoorRefX
import Derived.Test.YtimmgiiddckleaaDoorRefRightW
import Derived.Test.YtimmgiiddckleaaDoorValid
namespace Go.Proofs.YtimmgiiddckleaaDoor
open Go.RowKit

set_option maxRecDepth 100000 in
set_option maxHeartbeats 8000000 in
theorem arity_any (op : Int) (w : World) : Calls Tryd.prog 16 #[.int .i64 op] w fun e w' => e = .returned (.int .i64 (arityR op)) ∧ w' = w := by
  by_cases h1 : op = 1 ∨ op = 2 ∨ op = 15 ∨ op = 18 ∨ op = 19 ∨ op = 20
  · have : arityR op = 1 := by unfold arityR; rw [if_pos h1]
    rw [this]
    exact arity_one op w h1
  · by_cases h2 : 3 ≤ op ∧ op ≤ 14
    · have : arityR op = 2 := by unfold arityR; rw [if_neg h1, if_pos h2]
      rw [this]
      exact arity_two op w (by omega)
    · have : arityR op = 0 := by unfold arityR; rw [if_neg h1, if_neg h2]
      rw [this]
      have e1 : (op == 1) = false := beq_eq_false_iff_ne.2 (by omega)
      have e2 : (op == 2) = false := beq_eq_false_iff_ne.2 (by omega)
      have e15 : (op == 15) = false := beq_eq_false_iff_ne.2 (by omega)
      have e18 : (op == 18) = false := beq_eq_false_iff_ne.2 (by omega)
      have e19 : (op == 19) = false := beq_eq_false_iff_ne.2 (by omega)
      have e20 : (op == 20) = false := beq_eq_false_iff_ne.2 (by omega)
      have e3 : (op == 3) = false := beq_eq_false_iff_ne.2 (by omega)
      have e4 : (op == 4) = false := beq_eq_false_iff_ne.2 (by omega)
      have e5 : (op == 5) = false := beq_eq_false_iff_ne.2 (by omega)
      have e6 : (op == 6) = false := beq_eq_false_iff_ne.2 (by omega)
      have e7 : (op == 7) = false := beq_eq_false_iff_ne.2 (by omega)
      have e8 : (op == 8) = false := beq_eq_false_iff_ne.2 (by omega)
      have e9 : (op == 9) = false := beq_eq_false_iff_ne.2 (by omega)
      have e10 : (op == 10) = false := beq_eq_false_iff_ne.2 (by omega)
      have e11 : (op == 11) = false := beq_eq_false_iff_ne.2 (by omega)
      have e12 : (op == 12) = false := beq_eq_false_iff_ne.2 (by omega)
      have e13 : (op == 13) = false := beq_eq_false_iff_ne.2 (by omega)
      have e14 : (op == 14) = false := beq_eq_false_iff_ne.2 (by omega)
      clear h1 h2 this
      go_enter Tryd.func16, Tryd.ntmps16
      go_wp2
      go_ret
      exact ⟨rfl, rfl⟩

set_option maxRecDepth 100000 in
set_option maxHeartbeats 8000000 in
theorem change_null (op i : Int) (s : ByteArray) (w : World) :
    Calls Tryd.prog 22 #[.int .i64 op, .agg #[.int .i64 0, .int .i64 i, .string s]] w (ResPost 0 0 0 w) := by
  go_enter Tryd.func22, Tryd.ntmps22
  go_wp2_with (go_at_call 21; refine (isNull_any _ _ _ _).mono ?_; rintro e w' ⟨rfl, rfl⟩)
  refine bodyPost_ret (v := .tuple #[.agg #[.int .i64 0, .int .i64 0, .string noText], .int .i64 0]) ?_ rfl ⟨rfl, ?_⟩
  · simp [results, Tryd.results22, go_sem]
  · repeat (first | exact Below.refl _ _ | assumption | refine Below.alloc ?_ (by simp <;> omega) _ | refine Below.setCell ?_ (by simp <;> omega) _)

set_option maxRecDepth 100000 in
set_option maxHeartbeats 8000000 in
theorem change_type (op k i : Int) (s : ByteArray) (w : World) (h0 : k ≠ 0) (hn : numB k = false) :
    Calls Tryd.prog 22 #[.int .i64 op, .agg #[.int .i64 k, .int .i64 i, .string s]] w (ResPost 0 0 5 w) := by
  have e0 : (k == 0) = false := beq_eq_false_iff_ne.2 h0
  have HN := Lib.hid hn
  clear h0 hn
  go_enter Tryd.func22, Tryd.ntmps22
  go_wp2_with (first
    | (go_at_call 21; refine (isNull_any _ _ _ _).mono ?_; rintro e w' ⟨rfl, rfl⟩)
    | (go_at_call 43; refine (isNumber_any _ _ _ _).mono ?_; rintro e w' ⟨rfl, rfl⟩; rw [HN.out]))
  refine bodyPost_ret (v := .tuple #[.agg #[.int .i64 0, .int .i64 0, .string noText], .int .i64 5]) ?_ rfl ⟨rfl, ?_⟩
  · simp [results, Tryd.results22, go_sem]
  · repeat (first | exact Below.refl _ _ | assumption | refine Below.alloc ?_ (by simp <;> omega) _ | refine Below.setCell ?_ (by simp <;> omega) _)

set_option maxRecDepth 100000 in
set_option maxHeartbeats 8000000 in
theorem change_pos (k i : Int) (w : World) (h0 : k ≠ 0) (hn : numB k = true) (hi : 0 ≤ i) :
    Calls Tryd.prog 22 #[.int .i64 19, .agg #[.int .i64 k, .int .i64 i, .string noText]] w (ResPost k i 0 w) := by
  have e0 : (k == 0) = false := beq_eq_false_iff_ne.2 h0
  have HN := Lib.hid hn
  clear h0 hn
  go_enter Tryd.func22, Tryd.ntmps22
  go_wp2_with (first
    | (go_at_call 21; refine (isNull_any _ _ _ _).mono ?_; rintro e w' ⟨rfl, rfl⟩)
    | (go_at_call 43; refine (isNumber_any _ _ _ _).mono ?_; rintro e w' ⟨rfl, rfl⟩; rw [HN.out]))
  refine bodyPost_ret (v := .tuple #[.agg #[.int .i64 k, .int .i64 i, .string noText], .int .i64 0]) ?_ rfl ⟨rfl, ?_⟩
  · simp [results, Tryd.results22, go_sem]
  · repeat (first | exact Below.refl _ _ | assumption | refine Below.alloc ?_ (by simp <;> omega) _ | refine Below.setCell ?_ (by simp <;> omega) _)

set_option maxRecDepth 100000 in
set_option maxHeartbeats 8000000 in
theorem change_neg (k i V : Int) (B : Bool) (s : ByteArray) (w : World) (h0 : k ≠ 0) (hn : numB k = true) (hV : IntKind.i64.wrap (-i) = V) (hB : (i != -9223372036854775808) = B) :
    Calls Tryd.prog 22 #[.int .i64 1, .agg #[.int .i64 k, .int .i64 i, .string s]] w (ResPost (if B then k else 0) (if B then V else 0) (if B then 0 else 4) w) := by
  have e0 : (k == 0) = false := beq_eq_false_iff_ne.2 h0
  have HN := Lib.hid hn
  have HC := Lib.hid (fun w => number_any k V B w)

  clear h0 hn
  generalize (if B then k else 0) = K at *
  generalize (if B then V else 0) = I at *
  generalize (if B then (0 : Int) else 4) = E at *
  have bR := (Blk.atB (w := w.alloc (.cells #[.int .i64 k, .int .i64 i, .string s] 24)) (b := w.heap.size + 1) (cs := #[.int .i64 0, .int .i64 0, .string noText]) (t := 24) (by simp))
  have hb0 := ((Below.refl w.heap.size w).alloc (Nat.le_refl _) (.cells #[.int .i64 k, .int .i64 i, .string s] 24)).alloc (by simp) (.cells #[.int .i64 0, .int .i64 0, .string noText] 24)
  go_enter Tryd.func22, Tryd.ntmps22
  go_wp2_with (first
    | (go_at_call 21; refine (isNull_any _ _ _ _).mono ?_; rintro e w' ⟨rfl, rfl⟩)
    | (go_at_call 43; refine (isNumber_any _ _ _ _).mono ?_; rintro e w' ⟨rfl, rfl⟩; rw [HN.out])
    | (go_at_call 45; (with_reducible refine (HC.out _).mono ?_); rintro e w5 ⟨rfl, hb5⟩; have bR5 := ((bR.alloc (.cells #[.int .i64 k, .int .i64 i, .string s] 24)).alloc (.cells #[.int .i64 k, .int .i64 i, .string s] 24)).below hb5; have hz := hb0.size; have hb4 := (hb0.alloc hz (.cells #[.int .i64 k, .int .i64 i, .string s] 24)).alloc (by simp; omega) (.cells #[.int .i64 k, .int .i64 i, .string s] 24); have h5 := hb4.trans (hb5.mono hb4.size); have r0 := bR5.cell 0; have r1 := bR5.cell 1; have r2 := bR5.cell 2; have f0 := bR5.frozen 0; have f1 := bR5.frozen 1; have f2 := bR5.frozen 2; simp only [List.getElem?_toArray, List.getElem?_cons_zero, List.getElem?_cons_succ] at r0 r1 r2))
  refine bodyPost_ret ?_ rfl ⟨rfl, ?_⟩
  · simp [results, Tryd.results22, go_sem, r0, r1, r2]
  · exact (((h5.setCell (by simp; try omega) _).setCell (by simp; try omega) _).setCell (by simp; try omega) _)

set_option maxRecDepth 100000 in
set_option maxHeartbeats 8000000 in
theorem change_abs (k i V : Int) (B : Bool) (s : ByteArray) (w : World) (h0 : k ≠ 0) (hn : numB k = true) (hV : IntKind.i64.wrap (-i) = V) (hB : (i != -9223372036854775808) = B) (hi : i < 0) :
    Calls Tryd.prog 22 #[.int .i64 19, .agg #[.int .i64 k, .int .i64 i, .string s]] w (ResPost (if B then k else 0) (if B then V else 0) (if B then 0 else 4) w) := by
  have e0 : (k == 0) = false := beq_eq_false_iff_ne.2 h0
  have HN := Lib.hid hn
  have HC := Lib.hid (fun w => number_any k V B w)
  have hi' : decide (0 ≤ i) = false := decide_eq_false (by omega)
  clear h0 hn
  generalize (if B then k else 0) = K at *
  generalize (if B then V else 0) = I at *
  generalize (if B then (0 : Int) else 4) = E at *
  have bR := (Blk.atB (w := w.alloc (.cells #[.int .i64 k, .int .i64 i, .string s] 24)) (b := w.heap.size + 1) (cs := #[.int .i64 0, .int .i64 0, .string noText]) (t := 24) (by simp))
  have hb0 := ((Below.refl w.heap.size w).alloc (Nat.le_refl _) (.cells #[.int .i64 k, .int .i64 i, .string s] 24)).alloc (by simp) (.cells #[.int .i64 0, .int .i64 0, .string noText] 24)
  go_enter Tryd.func22, Tryd.ntmps22
  go_wp2_with (first
    | (go_at_call 21; refine (isNull_any _ _ _ _).mono ?_; rintro e w' ⟨rfl, rfl⟩)
    | (go_at_call 43; refine (isNumber_any _ _ _ _).mono ?_; rintro e w' ⟨rfl, rfl⟩; rw [HN.out])
    | (go_at_call 45; (with_reducible refine (HC.out _).mono ?_); rintro e w5 ⟨rfl, hb5⟩; have bR5 := ((bR.alloc (.cells #[.int .i64 k, .int .i64 i, .string s] 24)).alloc (.cells #[.int .i64 k, .int .i64 i, .string s] 24)).below hb5; have hz := hb0.size; have hb4 := (hb0.alloc hz (.cells #[.int .i64 k, .int .i64 i, .string s] 24)).alloc (by simp; omega) (.cells #[.int .i64 k, .int .i64 i, .string s] 24); have h5 := hb4.trans (hb5.mono hb4.size); have r0 := bR5.cell 0; have r1 := bR5.cell 1; have r2 := bR5.cell 2; have f0 := bR5.frozen 0; have f1 := bR5.frozen 1; have f2 := bR5.frozen 2; simp only [List.getElem?_toArray, List.getElem?_cons_zero, List.getElem?_cons_succ] at r0 r1 r2))
  refine bodyPost_ret ?_ rfl ⟨rfl, ?_⟩
  · simp [results, Tryd.results22, go_sem, r0, r1, r2]
  · exact (((h5.setCell (by simp; try omega) _).setCell (by simp; try omega) _).setCell (by simp; try omega) _)

theorem neg_fit (k i : Int) (h : -9223372036854775808 ≤ i ∧ i ≤ 9223372036854775807) :
    ((if (i != -9223372036854775808) then k else 0) = fitK k (-i)) ∧ ((if (i != -9223372036854775808) then IntKind.i64.wrap (-i) else 0) = fitI (-i)) ∧ ((if (i != -9223372036854775808) then (0 : Int) else 4) = fitE (-i)) := by
  unfold fitK fitI fitE
  by_cases hi : i = -9223372036854775808
  · have e : fitsB (-i) = false := by unfold fitsB; rw [decide_eq_false_iff_not]; omega
    rw [e, hi]; exact ⟨rfl, rfl, rfl⟩
  · have e : fitsB (-i) = true := by unfold fitsB; rw [decide_eq_true_eq]; omega
    have e2 : (i != -9223372036854775808) = true := by simpa using hi
    rw [e, e2]
    refine ⟨rfl, ?_, rfl⟩
    rw [if_pos rfl, if_pos rfl, IntWalk.i64_in _ (by omega)]
theorem okEl_num {a : Dat} (h0 : a.k ≠ 0) : okEl 2 3 a = numB a.k := by
  unfold okEl numB
  rw [Bool.eq_iff_iff]
  simp
  omega

/-- change: of a value that may be. -/
theorem change_any (op : Int) (hop : op = 1 ∨ op = 19 ∨ op = 20) (a : Dat) (ha : rightD a = true) (hI : InI a) (w : World) :
    Calls Tryd.prog 22 #[.int .i64 op, datVal a] w (ResT (unR op a) w) := by
  obtain ⟨k, i, s⟩ := a
  unfold unR
  simp only
  by_cases h0 : k = 0
  · subst h0
    rw [if_neg (by simp [okEl]), if_pos rfl]
    exact change_null op i s w
  · rw [okEl_num h0]
    cases hn : numB k
    · rw [if_pos rfl]
      exact change_type op k i s w h0 hn
    · rw [if_neg (by decide), if_neg h0]
      have hk : k = 2 ∨ k = 3 := by unfold numB at hn; simpa using hn
      obtain rfl : s = noText := right_num ha hk
      unfold InI at hI
      simp only at hI
      have neg := neg_fit k i hI
      rcases hop with rfl | rfl | rfl
      · rw [if_neg (by decide), if_pos (.inl rfl)]
        have h := change_neg k i _ _ noText w h0 hn rfl rfl
        rw [neg.1, neg.2.1, neg.2.2] at h
        exact h
      · rw [if_neg (by decide)]
        by_cases hi : i < 0
        · rw [if_pos (.inr hi)]
          have h := change_abs k i _ _ noText w h0 hn rfl rfl hi
          rw [neg.1, neg.2.1, neg.2.2] at h
          exact h
        · rw [if_neg (by omega)]
          exact change_pos k i w h0 hn (by omega)
      · rw [if_pos rfl]
        rcases hk with rfl | rfl
        · have h := change_dec 2 i _ _ noText w (.inl rfl) (Lib.hid fun w => scaled_int i noText w hI)
          have e : scB i = fitsB (numZ 2 i) := rfl
          have e2 : (if fitsB (numZ 2 i) = true then scV i else 0) = fitI (numZ 2 i) := by
            unfold fitI
            cases hb : fitsB (numZ 2 i)
            · rfl
            · rw [if_pos rfl, if_pos rfl]
              exact scV_eq i hb
          rw [e, e2] at h
          exact h
        · have h := change_dec 3 i _ _ noText w (.inr rfl) (Lib.hid fun w => scaled_dec i noText w)
          have e : fitsB (numZ 3 i) = true := by unfold fitsB numZ; rw [decide_eq_true_eq]; exact hI
          unfold fitT fitK fitI fitE
          rw [e]
          exact h

set_option maxRecDepth 100000 in
set_option maxHeartbeats 8000000 in
theorem plen_null (i : Int) (s : ByteArray) (w : World) :
    Calls Tryd.prog 24 #[.agg #[.int .i64 0, .int .i64 i, .string s]] w (ResPost 0 0 0 w) := by
  go_enter Tryd.func24, Tryd.ntmps24
  go_wp2
  refine bodyPost_ret (v := .tuple #[.agg #[.int .i64 0, .int .i64 0, .string noText], .int .i64 0]) ?_ rfl ⟨rfl, ?_⟩
  · simp [results, Tryd.results24, go_sem]
  · repeat (first | exact Below.refl _ _ | assumption | refine Below.alloc ?_ (by simp <;> omega) _ | refine Below.setCell ?_ (by simp <;> omega) _)

set_option maxRecDepth 100000 in
set_option maxHeartbeats 8000000 in
theorem plen_type (k i : Int) (s : ByteArray) (w : World) (h0 : k ≠ 0) (h4 : k ≠ 4) (h5 : k ≠ 5) :
    Calls Tryd.prog 24 #[.agg #[.int .i64 k, .int .i64 i, .string s]] w (ResPost 0 0 5 w) := by
  have e0 : (k == 0) = false := beq_eq_false_iff_ne.2 h0
  have e4 : (k == 4) = false := beq_eq_false_iff_ne.2 h4
  have e5 : (k == 5) = false := beq_eq_false_iff_ne.2 h5
  clear h0 h4 h5
  go_enter Tryd.func24, Tryd.ntmps24
  go_wp2
  refine bodyPost_ret (v := .tuple #[.agg #[.int .i64 0, .int .i64 0, .string noText], .int .i64 5]) ?_ rfl ⟨rfl, ?_⟩
  · simp [results, Tryd.results24, go_sem]
  · repeat (first | exact Below.refl _ _ | assumption | refine Below.alloc ?_ (by simp <;> omega) _ | refine Below.setCell ?_ (by simp <;> omega) _)

set_option maxRecDepth 100000 in
set_option maxHeartbeats 8000000 in
theorem plen_bytes (i : Int) (s : ByteArray) (w : World) :
    Calls Tryd.prog 24 #[.agg #[.int .i64 5, .int .i64 i, .string s]] w (ResPost 2 s.size 0 w) := by
  go_enter Tryd.func24, Tryd.ntmps24
  go_wp2
  refine bodyPost_ret (v := .tuple #[.agg #[.int .i64 2, .int .i64 s.size, .string noText], .int .i64 0]) ?_ rfl ⟨rfl, ?_⟩
  · simp [results, Tryd.results24, go_sem]
  · repeat (first | exact Below.refl _ _ | assumption | refine Below.alloc ?_ (by simp <;> omega) _ | refine Below.setCell ?_ (by simp <;> omega) _)

set_option maxRecDepth 100000 in
set_option maxHeartbeats 8000000 in
theorem plen_text (i : Int) (s : ByteArray) (w : World) (hs : s.size ≤ 1000) :
    Calls Tryd.prog 24 #[.agg #[.int .i64 4, .int .i64 i, .string s]] w (ResPost 2 (runeC s 0) 0 w) := by
  have HC := Lib.hid (fun w => cnt_any s w hs)
  have bR := (Blk.atB (w := w.alloc (.cells #[.int .i64 4, .int .i64 i, .string s] 24)) (b := w.heap.size + 1) (cs := #[.int .i64 0, .int .i64 0, .string noText]) (t := 24) (by simp))
  have hb0 := ((Below.refl w.heap.size w).alloc (Nat.le_refl _) (.cells #[.int .i64 4, .int .i64 i, .string s] 24)).alloc (by simp) (.cells #[.int .i64 0, .int .i64 0, .string noText] 24)
  go_enter Tryd.func24, Tryd.ntmps24
  go_wp2_with (go_at_call 47; (with_reducible refine (HC.out _).mono ?_); rintro e w3 ⟨rfl, hb3⟩; have bR3 := bR.below hb3; have h3 := hb0.trans (hb3.mono hb0.size); have r0 := bR3.cell 0; have r1 := bR3.cell 1; have r2 := bR3.cell 2; have f0 := bR3.frozen 0; have f1 := bR3.frozen 1; have f2 := bR3.frozen 2; simp only [List.getElem?_toArray, List.getElem?_cons_zero, List.getElem?_cons_succ] at r0 r1 r2)
  refine bodyPost_ret ?_ rfl ⟨rfl, ?_⟩
  · simp [results, Tryd.results24, go_sem, r0, r1, r2]
  · exact (((h3.setCell (by simp; try omega) _).setCell (by simp; try omega) _).setCell (by simp; try omega) _)

theorem plen_any (a : Dat) (ha : rightD a = true) (w : World) : Calls Tryd.prog 24 #[datVal a] w (ResT (lenR a) w) := by
  have hk := rightD_kind a ha
  have hz := rightD_size a ha
  obtain ⟨k, i, s⟩ := a
  unfold lenR
  simp only at *
  by_cases h0 : k = 0
  · subst h0
    rw [if_pos rfl]
    exact plen_null i s w
  · rw [if_neg h0]
    by_cases h4 : k < 4
    · rw [if_pos h4]
      exact plen_type k i s w h0 (by omega) (by omega)
    · rw [if_neg h4]
      by_cases h5 : k = 4
      · subst h5
        rw [if_pos rfl]
        exact plen_text i s w hz
      · obtain rfl : k = 5 := by omega
        rw [if_neg h5]
        exact plen_bytes i s w

theorem cmpN_eq (k1 i1 k2 i2 : Int) (h1 : k1 = 2 ∨ k1 = 3) (h2 : k2 = 2 ∨ k2 = 3) (b1 : -9223372036854775808 ≤ i1 ∧ i1 ≤ 9223372036854775807) (b2 : -9223372036854775808 ≤ i2 ∧ i2 ≤ 9223372036854775807) :
    cmpN k1 i1 k2 i2 = ordI (numZ k1 i1) (numZ k2 i2) := by
  have s1 : scB i1 = true → scV i1 = i1 * 10000 := scV_eq i1
  have s2 : scB i2 = true → scV i2 = i2 * 10000 := scV_eq i2
  have t1 : scB i1 = decide (-9223372036854775808 ≤ i1 * 10000 ∧ i1 * 10000 ≤ 9223372036854775807) := rfl
  have t2 : scB i2 = decide (-9223372036854775808 ≤ i2 * 10000 ∧ i2 * 10000 ≤ 9223372036854775807) := rfl
  unfold cmpN numZ
  rcases h1 with rfl | rfl <;> rcases h2 with rfl | rfl
  · simp only [if_true]
    unfold ordI
    split <;> split <;> (try split) <;> (try split) <;> first | rfl | omega
  · show (if scB i1 = true then ordI (scV i1) i2 else ordI i1 0) = ordI (i1 * 10000) i2
    cases hb : scB i1
    · rw [hb] at t1
      have t1 := of_decide_eq_false t1.symm
      simp only [Bool.false_eq_true, if_false]
      unfold ordI
      split <;> (try split) <;> (try split) <;> (try split) <;> first | rfl | omega
    · simp only [if_true]
      rw [s1 hb]
  · show (if scB i2 = true then ordI i1 (scV i2) else ordI 0 i2) = ordI i1 (i2 * 10000)
    cases hb : scB i2
    · rw [hb] at t2
      have t2 := of_decide_eq_false t2.symm
      simp only [Bool.false_eq_true, if_false]
      unfold ordI
      split <;> (try split) <;> (try split) <;> (try split) <;> first | rfl | omega
    · simp only [if_true]
      rw [s2 hb]
  · rw [if_pos rfl, if_neg (by decide), if_neg (by decide)]

/-- relate: of values that may be. -/
theorem relate_any (op : Int) (hop : op = 7 ∨ op = 8 ∨ op = 9 ∨ op = 10 ∨ op = 11 ∨ op = 12) (a b : Dat) (ha : rightD a = true) (hb : rightD b = true) (hI : InI a) (hJ : InI b) (w : World) :
    Calls Tryd.prog 25 #[.int .i64 op, datVal a, datVal b] w (ResT (relR op a b) w) := by
  obtain ⟨k1, i1, s1⟩ := a
  obtain ⟨k2, i2, s2⟩ := b
  unfold relR
  simp only
  by_cases h1 : k1 = 0
  · rw [if_pos (.inl h1)]
    exact rel_null1 op k1 i1 s1 k2 i2 s2 h1 w
  · by_cases h2 : k2 = 0
    · rw [if_pos (.inr h2)]
      exact rel_null2 op k1 i1 s1 k2 i2 s2 h1 h2 w
    · rw [if_neg (by omega)]
      cases n1 : numB k1
      · rw [if_neg (by simp)]
        by_cases hk : k1 = k2
        · rw [if_neg (by omega)]
          have h := rel_same op k1 i1 s1 k2 i2 s2 hop h1 n1 hk.symm w
          subst hk
          exact h
        · rw [if_pos hk]
          exact rel_type op k1 i1 s1 k2 i2 s2 h1 h2 (.inl n1) hk w
      · cases n2 : numB k2
        · have hk : k1 ≠ k2 := by intro e; rw [e, n2] at n1; cases n1
          rw [if_neg (by simp), if_pos hk]
          exact rel_type op k1 i1 s1 k2 i2 s2 h1 h2 (.inr ⟨n1, n2⟩) hk w
        · rw [if_pos (show (true && true) = true from rfl)]
          have q1 : k1 = 2 ∨ k1 = 3 := by unfold numB at n1; simpa using n1
          have q2 : k2 = 2 ∨ k2 = 3 := by unfold numB at n2; simpa using n2
          unfold InI at hI hJ
          simp only at hI hJ
          refine rel_num op k1 i1 s1 k2 i2 s2 _ hop n1 n2 (Lib.hid fun w => ?_) w
          unfold cmpZ
          simp only
          obtain rfl : s1 = noText := right_num ha q1
          obtain rfl : s2 = noText := right_num hb q2
          rw [← cmpN_eq k1 i1 k2 i2 q1 q2 hI hJ]
          rcases q1 with rfl | rfl <;> rcases q2 with rfl | rfl
          · exact cmpN_same 2 i1 i2 w
          · exact cmpN_id i1 i2 w hI
          · exact cmpN_di i1 i2 w hJ
          · exact cmpN_same 3 i1 i2 w


end Go.Proofs.YtimmgiiddckleaaDoor

namespace Go.Proofs.YtimmgiiddckleaaDoor
open Go.RowKit

set_option maxRecDepth 100000 in
set_option maxHeartbeats 8000000 in
theorem reckon_type1 (op k1 i1 : Int) (s1 : ByteArray) (k2 i2 : Int) (s2 : ByteArray) (w : World) (h1 : k1 ≠ 0) (n1 : numB k1 = false) :
    Calls Tryd.prog 23 #[.int .i64 op, .agg #[.int .i64 k1, .int .i64 i1, .string s1], .agg #[.int .i64 k2, .int .i64 i2, .string s2]] w (ResPost 0 0 5 w) := by
  have e1 : (k1 == 0) = false := beq_eq_false_iff_ne.2 h1
  have N1 := Lib.hid n1
  clear h1 n1
  go_enter Tryd.func23, Tryd.ntmps23
  go_wp2_with (first
    | (go_at_call 21; refine (isNull_any _ _ _ _).mono ?_; rintro e w' ⟨rfl, rfl⟩)
    | (go_at_call 43; (with_reducible refine (isNumber_any k1 _ _ _).mono ?_); rintro e w' ⟨rfl, rfl⟩; rw [N1.out]))
  refine bodyPost_ret (v := .tuple #[.agg #[.int .i64 0, .int .i64 0, .string noText], .int .i64 5]) ?_ rfl ⟨rfl, ?_⟩
  · simp [results, Tryd.results23, go_sem]
  · repeat (first | exact Below.refl _ _ | assumption | refine Below.alloc ?_ (by simp <;> omega) _ | refine Below.setCell ?_ (by simp <;> omega) _)

set_option maxRecDepth 100000 in
set_option maxHeartbeats 8000000 in
theorem reckon_type2_num (op k1 i1 : Int) (s1 : ByteArray) (k2 i2 : Int) (s2 : ByteArray) (w : World) (n1 : numB k1 = true) (h2 : k2 ≠ 0) (n2 : numB k2 = false) :
    Calls Tryd.prog 23 #[.int .i64 op, .agg #[.int .i64 k1, .int .i64 i1, .string s1], .agg #[.int .i64 k2, .int .i64 i2, .string s2]] w (ResPost 0 0 5 w) := by
  have e2 : (k2 == 0) = false := beq_eq_false_iff_ne.2 h2
  have N1 := Lib.hid n1
  have N2 := Lib.hid n2
  clear h2 n1 n2
  go_enter Tryd.func23, Tryd.ntmps23
  go_wp2_with (first
    | (go_at_call 21; refine (isNull_any _ _ _ _).mono ?_; rintro e w' ⟨rfl, rfl⟩)
    | (go_at_call 43; (with_reducible refine (isNumber_any k1 _ _ _).mono ?_); rintro e w' ⟨rfl, rfl⟩; rw [N1.out])
    | (go_at_call 43; (with_reducible refine (isNumber_any k2 _ _ _).mono ?_); rintro e w' ⟨rfl, rfl⟩; rw [N2.out]))
  refine bodyPost_ret (v := .tuple #[.agg #[.int .i64 0, .int .i64 0, .string noText], .int .i64 5]) ?_ rfl ⟨rfl, ?_⟩
  · simp [results, Tryd.results23, go_sem]
  · repeat (first | exact Below.refl _ _ | assumption | refine Below.alloc ?_ (by simp <;> omega) _ | refine Below.setCell ?_ (by simp <;> omega) _)

set_option maxRecDepth 100000 in
set_option maxHeartbeats 8000000 in
theorem reckon_type2_null (op k1 i1 : Int) (s1 : ByteArray) (k2 i2 : Int) (s2 : ByteArray) (w : World) (h1 : k1 = 0) (h2 : k2 ≠ 0) (n2 : numB k2 = false) :
    Calls Tryd.prog 23 #[.int .i64 op, .agg #[.int .i64 k1, .int .i64 i1, .string s1], .agg #[.int .i64 k2, .int .i64 i2, .string s2]] w (ResPost 0 0 5 w) := by
  have e2 : (k2 == 0) = false := beq_eq_false_iff_ne.2 h2
  subst h1
  have N2 := Lib.hid n2
  clear h2 n2
  go_enter Tryd.func23, Tryd.ntmps23
  go_wp2_with (first
    | (go_at_call 21; refine (isNull_any _ _ _ _).mono ?_; rintro e w' ⟨rfl, rfl⟩)
    | (go_at_call 43; (with_reducible refine (isNumber_any 0 _ _ _).mono ?_); rintro e w' ⟨rfl, rfl⟩; rw [show numB 0 = false from rfl])
    | (go_at_call 43; (with_reducible refine (isNumber_any k2 _ _ _).mono ?_); rintro e w' ⟨rfl, rfl⟩; rw [N2.out]))
  refine bodyPost_ret (v := .tuple #[.agg #[.int .i64 0, .int .i64 0, .string noText], .int .i64 5]) ?_ rfl ⟨rfl, ?_⟩
  · simp [results, Tryd.results23, go_sem]
  · repeat (first | exact Below.refl _ _ | assumption | refine Below.alloc ?_ (by simp <;> omega) _ | refine Below.setCell ?_ (by simp <;> omega) _)

set_option maxRecDepth 100000 in
set_option maxHeartbeats 8000000 in
theorem reckon_null1_null (op k1 i1 : Int) (s1 : ByteArray) (k2 i2 : Int) (s2 : ByteArray) (w : World) (h1 : k1 = 0) (h2 : k2 = 0) :
    Calls Tryd.prog 23 #[.int .i64 op, .agg #[.int .i64 k1, .int .i64 i1, .string s1], .agg #[.int .i64 k2, .int .i64 i2, .string s2]] w (ResPost 0 0 0 w) := by
  subst h1 h2
  go_enter Tryd.func23, Tryd.ntmps23
  go_wp2_with (first
    | (go_at_call 21; refine (isNull_any _ _ _ _).mono ?_; rintro e w' ⟨rfl, rfl⟩)
    | (go_at_call 43; refine (isNumber_any _ _ _ _).mono ?_; rintro e w' ⟨rfl, rfl⟩) )
  refine bodyPost_ret (v := .tuple #[.agg #[.int .i64 0, .int .i64 0, .string noText], .int .i64 0]) ?_ rfl ⟨rfl, ?_⟩
  · simp [results, Tryd.results23, go_sem]
  · repeat (first | exact Below.refl _ _ | assumption | refine Below.alloc ?_ (by simp <;> omega) _ | refine Below.setCell ?_ (by simp <;> omega) _)

set_option maxRecDepth 100000 in
set_option maxHeartbeats 8000000 in
theorem reckon_null1_num (op k1 i1 : Int) (s1 : ByteArray) (k2 i2 : Int) (s2 : ByteArray) (w : World) (h1 : k1 = 0) (h2 : k2 ≠ 0) (n2 : numB k2 = true) :
    Calls Tryd.prog 23 #[.int .i64 op, .agg #[.int .i64 k1, .int .i64 i1, .string s1], .agg #[.int .i64 k2, .int .i64 i2, .string s2]] w (ResPost 0 0 0 w) := by
  have e2 : (k2 == 0) = false := beq_eq_false_iff_ne.2 h2
  subst h1
  have N2 := Lib.hid n2
  clear h2 n2
  go_enter Tryd.func23, Tryd.ntmps23
  go_wp2_with (first
    | (go_at_call 21; refine (isNull_any _ _ _ _).mono ?_; rintro e w' ⟨rfl, rfl⟩)
    | (go_at_call 43; (with_reducible refine (isNumber_any 0 _ _ _).mono ?_); rintro e w' ⟨rfl, rfl⟩; rw [show numB 0 = false from rfl])
    | (go_at_call 43; (with_reducible refine (isNumber_any k2 _ _ _).mono ?_); rintro e w' ⟨rfl, rfl⟩; rw [N2.out]))
  refine bodyPost_ret (v := .tuple #[.agg #[.int .i64 0, .int .i64 0, .string noText], .int .i64 0]) ?_ rfl ⟨rfl, ?_⟩
  · simp [results, Tryd.results23, go_sem]
  · repeat (first | exact Below.refl _ _ | assumption | refine Below.alloc ?_ (by simp <;> omega) _ | refine Below.setCell ?_ (by simp <;> omega) _)

set_option maxRecDepth 100000 in
set_option maxHeartbeats 8000000 in
theorem reckon_num_null (op k1 i1 : Int) (s1 : ByteArray) (k2 i2 : Int) (s2 : ByteArray) (w : World) (h1 : k1 ≠ 0) (n1 : numB k1 = true) (h2 : k2 = 0) :
    Calls Tryd.prog 23 #[.int .i64 op, .agg #[.int .i64 k1, .int .i64 i1, .string s1], .agg #[.int .i64 k2, .int .i64 i2, .string s2]] w (ResPost 0 0 0 w) := by
  have e1 : (k1 == 0) = false := beq_eq_false_iff_ne.2 h1
  subst h2
  have N1 := Lib.hid n1
  clear h1 n1
  go_enter Tryd.func23, Tryd.ntmps23
  go_wp2_with (first
    | (go_at_call 21; refine (isNull_any _ _ _ _).mono ?_; rintro e w' ⟨rfl, rfl⟩)
    | (go_at_call 43; (with_reducible refine (isNumber_any k1 _ _ _).mono ?_); rintro e w' ⟨rfl, rfl⟩; rw [N1.out])
    | (go_at_call 43; (with_reducible refine (isNumber_any 0 _ _ _).mono ?_); rintro e w' ⟨rfl, rfl⟩; rw [show numB 0 = false from rfl]))
  refine bodyPost_ret (v := .tuple #[.agg #[.int .i64 0, .int .i64 0, .string noText], .int .i64 0]) ?_ rfl ⟨rfl, ?_⟩
  · simp [results, Tryd.results23, go_sem]
  · repeat (first | exact Below.refl _ _ | assumption | refine Below.alloc ?_ (by simp <;> omega) _ | refine Below.setCell ?_ (by simp <;> omega) _)


theorem inB_fits (z : Int) : inB z = fitsB z := rfl
theorem ratR_fit {a b c : Int} (h0 : c ≠ 0) : (ratR a b c).2 = fitsB ((a * b).tdiv c) ∧ (fitsB ((a * b).tdiv c) = true → (ratR a b c).1 = (a * b).tdiv c) := by
  have hab : (a * b).natAbs = a.natAbs * b.natAbs := Int.natAbs_mul a b
  have ht := tdiv_abs (a * b) c
  rw [hab] at ht
  have hsign : a.natAbs * b.natAbs / c.natAbs ≠ 0 → negB a b c = (decide (a * b < 0) != decide (c < 0)) := by
    intro hq
    have hne : a.natAbs * b.natAbs ≠ 0 := by intro h; rw [h, Nat.zero_div] at hq; exact hq rfl
    have hab0 : a * b ≠ 0 := by intro h; rw [h] at hab; simp at hab; rw [← hab] at hne; exact hne rfl
    have ha0 : a ≠ 0 := by intro h; rw [h, Int.zero_mul] at hab0; exact hab0 rfl
    have hb0 : b ≠ 0 := by intro h; rw [h, Int.mul_zero] at hab0; exact hab0 rfl
    unfold negB
    congr 1
    rcases Int.lt_or_gt_of_ne ha0 with sa | sa <;> rcases Int.lt_or_gt_of_ne hb0 with sb | sb
    · have := Int.mul_pos_of_neg_of_neg sa sb
      rw [decide_eq_true sa, decide_eq_true sb, decide_eq_false (by omega)]; rfl
    · have := Int.mul_neg_of_neg_of_pos sa sb
      rw [decide_eq_true sa, decide_eq_false (by omega), decide_eq_true this]; rfl
    · have := Int.mul_neg_of_pos_of_neg sa sb
      rw [decide_eq_false (by omega), decide_eq_true sb, decide_eq_true this]; rfl
    · have := Int.mul_pos sa sb
      rw [decide_eq_false (by omega), decide_eq_false (by omega), decide_eq_false (by omega)]; rfl
  have hcp : 0 < c.natAbs := by omega
  unfold ratR
  by_cases hbig : c.natAbs ≤ a.natAbs * b.natAbs / 18446744073709551616
  · rw [if_pos hbig]
    have h1 : 18446744073709551616 ≤ a.natAbs * b.natAbs / c.natAbs := by
      rw [Nat.le_div_iff_mul_le hcp, Nat.mul_comm]
      have := Nat.mul_le_mul_right 18446744073709551616 hbig
      exact Nat.le_trans this (Nat.div_mul_le_self (a.natAbs * b.natAbs) 18446744073709551616)
    have hf : fitsB ((a * b).tdiv c) = false := by
      unfold fitsB
      rw [ht, decide_eq_false_iff_not]
      generalize a.natAbs * b.natAbs / c.natAbs = q at h1 ⊢
      split <;> omega
    rw [hf]
    exact ⟨rfl, fun h => Bool.noConfusion h⟩
  · rw [if_neg hbig]
    generalize hq : a.natAbs * b.natAbs / c.natAbs = q at ht hsign ⊢
    by_cases q0 : q = 0
    · have hz : (a * b).tdiv c = 0 := by
        rw [ht, q0]
        split <;> rfl
      rw [hz, q0]
      refine ⟨?_, fun _ => ?_⟩
      · unfold ratB
        split <;> rfl
      · show (if negB a b c then wrap64 (-wrap64 ((0 : Nat) : Int)) else wrap64 ((0 : Nat) : Int)) = 0
        split <;> (unfold wrap64; omega)
    · rw [← hsign q0] at ht
      have hB : ratB (negB a b c) q = fitsB ((a * b).tdiv c) := by
        rw [ht]
        unfold ratB fitsB
        cases negB a b c
        · simp only [Bool.false_eq_true, if_false]
          rw [Bool.eq_iff_iff, decide_eq_true_eq, decide_eq_true_eq]
          omega
        · simp only [if_true]
          rw [Bool.eq_iff_iff, decide_eq_true_eq, decide_eq_true_eq]
          omega
      refine ⟨hB, fun hf => ?_⟩
      rw [← hB] at hf
      rw [ht]
      exact (rat_fits _ _ hf).1

/-- What arithmetic comes to. -/
def arR (op x y u : Int) : Int × Bool := if op = 3 then sumR x y else if op = 4 then subR x y else if op = 5 then ratR x y u else ratR x u y
theorem arR_calls (op : Int) (hop : op = 3 ∨ op = 4 ∨ op = 5 ∨ op = 6) (x y u : Int) (hx : In64 x) (hy : In64 y) (hu : In64 u) (w : World) :
    Calls Tryd.prog 46 #[.int .i64 op, .int .i64 x, .int .i64 y, .int .i64 u] w (RatPost (arR op x y u).1 (arR op x y u).2 w) := by
  rcases hop with rfl | rfl | rfl | rfl
  · exact arith_add x y u w
  · exact arith_sub x y u w
  · exact arith_mul x y u _ _ w (Lib.hid fun w => ratio_any x y u w hx hy hu)
  · exact arith_div x y u _ _ w (Lib.hid fun w => ratio_any x u y w hx hu hy)
theorem sum_fit {x y : Int} (hx : In64 x) (hy : In64 y) : (sumR x y).2 = fitsB (x + y) ∧ (fitsB (x + y) = true → (sumR x y).1 = x + y) := by
  rw [sumR_eq hx hy]
  exact ⟨rfl, fun h => wrap_in ((inB_iff _).1 h)⟩
theorem sub_fit {x y : Int} (hx : In64 x) (hy : In64 y) : (subR x y).2 = fitsB (x + -y) ∧ (fitsB (x + -y) = true → (subR x y).1 = x + -y) := by
  rw [subR_eq hx hy, Int.sub_eq_add_neg]
  exact ⟨rfl, fun h => wrap_in ((inB_iff _).1 h)⟩

theorem rec_no {R : Int × Bool} {k1 i1 k2 i2 : Int} (h : recB R k1 i1 k2 i2 = false) (w : World) : ResPost (recK R k1 i1 k2 i2) (recI R k1 i1 k2 i2) (recE R k1 i1 k2 i2) w = ResT (0, 0, 4) w := by
  unfold recK recI recE
  rw [h]; rfl
theorem rec_fit {R : Int × Bool} {k1 i1 k2 i2 z : Int} (ho : (opdB k1 k2 k1 i1 && opdB k1 k2 k2 i2) = true) (h2 : R.2 = fitsB z) (h1 : fitsB z = true → R.1 = z) (w : World) : ResPost (recK R k1 i1 k2 i2) (recI R k1 i1 k2 i2) (recE R k1 i1 k2 i2) w = ResT (fitT (kkOf k1 k2) z) w := by
  have hb : recB R k1 i1 k2 i2 = fitsB z := by
    unfold recB
    rw [ho, h2]; rfl
  unfold recK recI recE fitT fitK fitI fitE
  rw [hb]
  cases hf : fitsB z
  · rfl
  · simp only [if_true]
    rw [h1 hf]; rfl
theorem rec_two (op : Int) (hop : op = 3 ∨ op = 4 ∨ op = 5 ∨ op = 6) {k1 i1 k2 i2 x y u : Int} (hx : In64 x) (hy : In64 y) (hu : u = 1 ∨ u = 10000) (ho : (opdB k1 k2 k1 i1 && opdB k1 k2 k2 i2) = true) (w : World) :
    ResPost (recK (arR op x y u) k1 i1 k2 i2) (recI (arR op x y u) k1 i1 k2 i2) (recE (arR op x y u) k1 i1 k2 i2) w = ResT (twoR op (kkOf k1 k2) u x y) w := by
  unfold arR twoR
  rcases hop with rfl | rfl | rfl | rfl
  · exact rec_fit ho (sum_fit hx hy).1 (sum_fit hx hy).2 w
  · exact rec_fit ho (sub_fit hx hy).1 (sub_fit hx hy).2 w
  · exact rec_fit ho (ratR_fit (by omega)).1 (ratR_fit (by omega)).2 w
  · rw [if_neg (by decide), if_neg (by decide), if_neg (by decide), if_neg (by decide), if_neg (by decide), if_neg (by decide)]
    by_cases hz : y = 0
    · rw [if_pos hz]
      refine rec_no ?_ w
      have : (ratR x u y).2 = false := by
        unfold ratR
        rw [if_pos (by rw [hz]; simp)]
      unfold recB
      rw [this, Bool.and_false]
    · rw [if_neg hz]
      exact rec_fit ho (ratR_fit hz).1 (ratR_fit hz).2 w

theorem opd_num {k1 k2 k i : Int} (hk : k = 2 ∨ k = 3) (h : ¬ (k1 = 2 ∧ k2 = 2)) (hi : -9223372036854775808 ≤ i ∧ i ≤ 9223372036854775807) : opdB k1 k2 k i = fitsB (numZ k i) ∧ (fitsB (numZ k i) = true → opdV k1 k2 k i = numZ k i) := by
  unfold opdB opdV numZ
  rcases hk with rfl | rfl
  · have e : ¬ ((k1 = 2 ∧ k2 = 2) ∨ (2 : Int) = 3) := by omega
    rw [if_neg e, if_neg e, if_pos rfl]
    exact ⟨rfl, fun hf => scV_eq i hf⟩
  · have e : ((k1 = 2 ∧ k2 = 2) ∨ (3 : Int) = 3) := .inr rfl
    rw [if_pos e, if_pos e, if_neg (by decide)]
    exact ⟨by unfold fitsB; rw [decide_eq_true hi], fun _ => rfl⟩

/-- reckon: of values that may be. -/
theorem reckon_any (op : Int) (hop : op = 3 ∨ op = 4 ∨ op = 5 ∨ op = 6) (a b : Dat) (ha : rightD a = true) (hb : rightD b = true) (hI : InI a) (hJ : InI b) (w : World) :
    Calls Tryd.prog 23 #[.int .i64 op, datVal a, datVal b] w (ResT (binR op a b) w) := by
  have hnum : onlyR 2 3 [a, b] = (okEl 2 3 a && okEl 2 3 b) := by
    unfold onlyR
    simp
  unfold binR
  rw [hnum]
  obtain ⟨k1, i1, s1⟩ := a
  obtain ⟨k2, i2, s2⟩ := b
  unfold InI at hI hJ
  simp only at hI hJ ⊢
  by_cases h1 : k1 = 0
  · have e1 : okEl 2 3 ⟨k1, i1, s1⟩ = true := decide_eq_true (.inl h1)
    rw [e1, Bool.true_and]
    by_cases h2 : k2 = 0
    · have e2 : okEl 2 3 ⟨k2, i2, s2⟩ = true := decide_eq_true (.inl h2)
      rw [e2, if_neg (by decide), if_pos (.inl h1)]
      exact reckon_null1_null op k1 i1 s1 k2 i2 s2 w h1 h2
    · rw [okEl_num h2]
      cases n2 : numB k2
      · rw [if_pos rfl]
        exact reckon_type2_null op k1 i1 s1 k2 i2 s2 w h1 h2 n2
      · rw [if_neg (by decide), if_pos (.inl h1)]
        exact reckon_null1_num op k1 i1 s1 k2 i2 s2 w h1 h2 n2
  · rw [okEl_num h1]
    cases n1 : numB k1
    · rw [if_pos (Bool.false_and _)]
      exact reckon_type1 op k1 i1 s1 k2 i2 s2 w h1 n1
    · rw [Bool.true_and]
      by_cases h2 : k2 = 0
      · have e2 : okEl 2 3 ⟨k2, i2, s2⟩ = true := decide_eq_true (.inl h2)
        rw [e2, if_neg (by decide), if_pos (.inr h2)]
        exact reckon_num_null op k1 i1 s1 k2 i2 s2 w h1 n1 h2
      · rw [okEl_num h2]
        cases n2 : numB k2
        · rw [if_pos rfl]
          exact reckon_type2_num op k1 i1 s1 k2 i2 s2 w n1 h2 n2
        · rw [if_neg (by decide), if_neg (by omega)]
          have q1 : k1 = 2 ∨ k1 = 3 := by unfold numB at n1; simpa using n1
          have q2 : k2 = 2 ∨ k2 = 3 := by unfold numB at n2; simpa using n2
          obtain rfl : s1 = noText := right_num ha q1
          obtain rfl : s2 = noText := right_num hb q2
          have x1 : In64 (opdV k1 k2 k1 i1) := opdV_in hI
          have x2 : In64 (opdV k1 k2 k2 i2) := opdV_in hJ
          have hu : uuOf k1 k2 = 1 ∨ uuOf k1 k2 = 10000 := by unfold uuOf; split <;> simp
          have h := reckon_all op k1 i1 k2 i2 (arR op (opdV k1 k2 k1 i1) (opdV k1 k2 k2 i2) (uuOf k1 k2)) q1 q2 hI hJ (fun w => arR_calls op hop _ _ _ x1 x2 (by unfold In64; omega) w) w
          by_cases hk : k1 = 2 ∧ k2 = 2
          · obtain ⟨rfl, rfl⟩ := hk
            rw [if_pos ⟨rfl, rfl⟩]
            rw [rec_two op hop x1 x2 hu rfl] at h
            exact h
          · rw [if_neg hk]
            obtain ⟨c1, d1⟩ := opd_num q1 hk hI
            obtain ⟨c2, d2⟩ := opd_num q2 hk hJ
            cases hf : (fitsB (numZ k1 i1) && fitsB (numZ k2 i2))
            · rw [if_pos rfl]
              rw [rec_no (by unfold recB; rw [c1, c2, hf]; rfl)] at h
              exact h
            · rw [if_neg (by decide)]
              have hf' := Bool.and_eq_true_iff.1 hf
              rw [rec_two op hop x1 x2 hu (by rw [c1, c2]; exact hf)] at h
              rw [d1 hf'.1, d2 hf'.2] at h
              unfold kkOf uuOf at h
              rw [if_neg hk, if_neg hk] at h
              exact h

end Go.Proofs.YtimmgiiddckleaaDoor

namespace Go.Proofs.YtimmgiiddckleaaDoor
open Go.RowKit

set_option maxRecDepth 100000 in
set_option maxHeartbeats 8000000 in
theorem refApply_none (op : Int) (L : List Dat) (v : Value) (w : World) (hv : DatV w v L) (hm : arityR op = 0) :
    Calls Tryd.prog 7 #[.int .i64 op, v] w (ResPost 0 0 1 w) := by
  obtain ⟨A, c, rfl, _, _⟩ := hv.len
  have HM := Lib.hid (fun w => many_any op w)
  rw [hm] at HM
  clear hm hv
  have hb0 := (Below.refl w.heap.size w).alloc (Nat.le_refl _) (.cells #[.int .i64 0, .int .i64 0, .string noText] 24)
  have bR := Blk.new w #[.int .i64 0, .int .i64 0, .string noText] 24
  go_enter Tryd.func7, Tryd.ntmps7
  go_wp2_with (go_at_call 26; (with_reducible refine (HM.out _).mono ?_); rintro e w' ⟨rfl, rfl⟩; have r0 := bR.cell 0; have r1 := bR.cell 1; have r2 := bR.cell 2; have f0 := bR.frozen 0; have f1 := bR.frozen 1; have f2 := bR.frozen 2; simp only [List.getElem?_toArray, List.getElem?_cons_zero, List.getElem?_cons_succ] at r0 r1 r2)
  refine bodyPost_ret (v := .tuple #[.agg #[.int .i64 0, .int .i64 0, .string noText], .int .i64 1]) ?_ rfl ⟨rfl, ?_⟩
  · simp [results, Tryd.results7, go_sem]
  · exact (Below.refl _ _).alloc (Nat.le_refl _) _

set_option maxRecDepth 100000 in
set_option maxHeartbeats 8000000 in
theorem refApply_len (op : Int) (L : List Dat) (v : Value) (w : World) (hv : DatV w v L) (hm : arityR op ≠ 0) (hl : (L.length : Int) ≠ arityR op) :
    Calls Tryd.prog 7 #[.int .i64 op, v] w (ResPost 0 0 1 w) := by
  obtain ⟨A, c, rfl, _, _⟩ := hv.len
  have HM := Lib.hid (fun w => many_any op w)
  have hm0 : (arityR op == 0) = false := by simpa using hm
  have hm1 : ((L.length : Int) != arityR op) = true := by simpa using hl
  revert HM hm0 hm1
  generalize arityR op = n
  intro HM hm0 hm1
  clear hm hl hv
  have hb0 := (Below.refl w.heap.size w).alloc (Nat.le_refl _) (.cells #[.int .i64 0, .int .i64 0, .string noText] 24)
  have bR := Blk.new w #[.int .i64 0, .int .i64 0, .string noText] 24
  go_enter Tryd.func7, Tryd.ntmps7
  go_wp2_with (go_at_call 26; (with_reducible refine (HM.out _).mono ?_); rintro e w' ⟨rfl, rfl⟩; have r0 := bR.cell 0; have r1 := bR.cell 1; have r2 := bR.cell 2; have f0 := bR.frozen 0; have f1 := bR.frozen 1; have f2 := bR.frozen 2; simp only [List.getElem?_toArray, List.getElem?_cons_zero, List.getElem?_cons_succ] at r0 r1 r2)
  refine bodyPost_ret (v := .tuple #[.agg #[.int .i64 0, .int .i64 0, .string noText], .int .i64 1]) ?_ rfl ⟨rfl, ?_⟩
  · simp [results, Tryd.results7, go_sem]
  · exact (Below.refl _ _).alloc (Nat.le_refl _) _

set_option maxRecDepth 100000 in
set_option maxHeartbeats 8000000 in
theorem refApply_bad (op : Int) (L : List Dat) (v : Value) (w : World) (hv : DatV w v L) (h0 : 0 < L.length) (hl : (L.length : Int) = arityR op) (ha : L.all rightD = false) :
    Calls Tryd.prog 7 #[.int .i64 op, v] w (ResPost 0 0 1 w) := by
  obtain ⟨A, c, rfl, hc, hm⟩ := hv.len
  have HM := Lib.hid (fun w => many_any op w)
  rw [← hl] at HM
  have hm0 : ((L.length : Int) == 0) = false := beq_eq_false_iff_ne.2 (by omega)
  have HV := Lib.hid hv
  have HA := Lib.hid ha
  clear hv hl h0 ha
  unfold maxLen at hm
  have hb0 := (Below.refl w.heap.size w).alloc (Nat.le_refl _) (.cells #[.int .i64 0, .int .i64 0, .string noText] 24)
  have bR := Blk.new w #[.int .i64 0, .int .i64 0, .string noText] 24
  go_enter Tryd.func7, Tryd.ntmps7
  go_wp2_with (go_at_call 26; (with_reducible refine (HM.out _).mono ?_); rintro e w' ⟨rfl, rfl⟩)
  go_loopw [21] (fun i wr => ∃ n : Nat, i = .int .i64 n ∧ n ≤ L.length ∧ Hid ((L.take n).all rightD = true) ∧ Below w.heap.size w wr ∧ Blk wr w.heap.size #[.int .i64 0, .int .i64 0, .string noText] 24) (fun i _ => L.length - (intOf i).toNat)
  case atStart => exact ⟨0, rfl, Nat.zero_le _, rfl, hb0, bR⟩
  case round =>
    clear hb0 bR
    obtain ⟨n, rfl, hn, HN, hb, bR⟩ := hrel
    by_cases hlt : n < L.length
    · rcases HV.out with ⟨_, h0⟩ | ⟨b, off, c', e, _, hbl, hat, _⟩
      · rw [h0] at hlt; simp at hlt
      · injection e with e1 e2 e3
        subst e1 e3
        obtain ⟨h0, h1, h2⟩ := (hat.block (hb.block b hbl)).dat n hlt
        have HP : Hid (rightD L[n] = true → (L.take (n + 1)).all rightD = true) := fun hp => all_take hlt HN.out hp
        have HE : Hid (L[n] ∈ L) := List.getElem_mem hlt
        clear hat hbl hn HN
        revert HP HE h0 h1 h2
        generalize L[n] = d
        obtain ⟨dk, di, ds⟩ := d
        intro h0 h1 h2 HP HE
        simp only at h0 h1 h2
        have hz := hb.size
        have hn1 : (n : Int) + 1 ≤ 9223372036854775807 := by omega
        have HR := Lib.hid (fun w => refRight_any dk di ds w)
        have bRo := bR.alloc (.cells #[.int .i64 dk, .int .i64 di, .string ds] 24)
        have hbo := hb.alloc hz (.cells #[.int .i64 dk, .int .i64 di, .string ds] 24)
        clear HM
        cases hd : rightD ⟨dk, di, ds⟩
        · rw [hd] at HR
          clear hd HP HA HE
          go_wp2_with (go_at_call 12; (with_reducible refine (HR.out _).mono ?_); rintro e w5 ⟨rfl, hb5⟩; have bR5 := bRo.below hb5; have h5 := hbo.trans (hb5.mono hbo.size); have r0 := bR5.cell 0; have r1 := bR5.cell 1; have r2 := bR5.cell 2; have f0 := bR5.frozen 0; have f1 := bR5.frozen 1; have f2 := bR5.frozen 2; simp only [List.getElem?_toArray, List.getElem?_cons_zero, List.getElem?_cons_succ] at r0 r1 r2)
          refine bodyPost_ret ?_ rfl ⟨rfl, ?_⟩
          · simp [results, Tryd.results7, go_sem, r0, r1, r2]
          · exact (((h5.setCell (by simp; try omega) _).setCell (by simp; try omega) _).setCell (by simp; try omega) _)

        · rw [hd] at HR
          have HQ := Lib.hid (HP.out hd)
          clear hd HP HA HE
          go_wp2_with (go_at_call 12; (with_reducible refine (HR.out _).mono ?_); rintro e w5 ⟨rfl, hb5⟩; have bR5 := bRo.below hb5; have h5 := hbo.trans (hb5.mono hbo.size))
          refine ⟨⟨n + 1, by go_num, hlt, HQ, h5, bR5⟩, ?_⟩
          simp [intOf]
          go_num
    · have := HN.out
      rw [List.take_of_length_le (by omega), HA.out] at this
      cases this
set_option maxRecDepth 100000 in
set_option maxHeartbeats 8000000 in
theorem refApply_logic (op : Int) (hop : op = 2 ∨ op = 13 ∨ op = 14) (L : List Dat) (v : Value) (w : World) (hv : DatV w v L) (h0 : 0 < L.length) (hl : (L.length : Int) = arityR op) (ha : L.all rightD = true) (t : Tri) (HP : Hid (∀ w', Below w.heap.size w w' → Calls Tryd.prog 28 #[.int .i64 op, v] w' (ResT t w'))) :
    Calls Tryd.prog 7 #[.int .i64 op, v] w (ResT t w) := by
  obtain ⟨A, c, rfl, hc, hm⟩ := hv.len
  have HM := Lib.hid (fun w => many_any op w)
  rw [← hl] at HM
  have hm0 : ((L.length : Int) == 0) = false := beq_eq_false_iff_ne.2 (by omega)
  have HV := Lib.hid hv
  have HA := Lib.hid ha
  clear hv hl h0 ha
  unfold maxLen at hm
  have hb0 := (Below.refl w.heap.size w).alloc (Nat.le_refl _) (.cells #[.int .i64 0, .int .i64 0, .string noText] 24)
  have bR := Blk.new w #[.int .i64 0, .int .i64 0, .string noText] 24
  go_enter Tryd.func7, Tryd.ntmps7
  go_wp2_with (go_at_call 26; (with_reducible refine (HM.out _).mono ?_); rintro e w' ⟨rfl, rfl⟩)
  go_loopw [21] (fun i wr => ∃ n : Nat, i = .int .i64 n ∧ n ≤ L.length ∧ Hid ((L.take n).all rightD = true) ∧ Below w.heap.size w wr ∧ Blk wr w.heap.size #[.int .i64 0, .int .i64 0, .string noText] 24) (fun i _ => L.length - (intOf i).toNat)
  case atStart => exact ⟨0, rfl, Nat.zero_le _, rfl, hb0, bR⟩
  case round =>
    clear hb0 bR
    obtain ⟨n, rfl, hn, HN, hb, bR⟩ := hrel
    by_cases hlt : n < L.length
    · rcases HV.out with ⟨_, h0⟩ | ⟨b, off, c', e, _, hbl, hat, _⟩
      · rw [h0] at hlt; simp at hlt
      · injection e with e1 e2 e3
        subst e1 e3
        obtain ⟨h0, h1, h2⟩ := (hat.block (hb.block b hbl)).dat n hlt
        have HP : Hid (rightD L[n] = true → (L.take (n + 1)).all rightD = true) := fun hp => all_take hlt HN.out hp
        have HE : Hid (L[n] ∈ L) := List.getElem_mem hlt
        clear hat hbl hn HN
        revert HP HE h0 h1 h2
        generalize L[n] = d
        obtain ⟨dk, di, ds⟩ := d
        intro h0 h1 h2 HP HE
        simp only at h0 h1 h2
        have hz := hb.size
        have hn1 : (n : Int) + 1 ≤ 9223372036854775807 := by omega
        have HR := Lib.hid (fun w => refRight_any dk di ds w)
        have bRo := bR.alloc (.cells #[.int .i64 dk, .int .i64 di, .string ds] 24)
        have hbo := hb.alloc hz (.cells #[.int .i64 dk, .int .i64 di, .string ds] 24)
        clear HM
        cases hd : rightD ⟨dk, di, ds⟩
        · have := List.all_eq_true.1 HA.out _ HE.out
          rw [hd] at this
          cases this
        · rw [hd] at HR
          have HQ := Lib.hid (HP.out hd)
          clear hd HP HA HE
          go_wp2_with (go_at_call 12; (with_reducible refine (HR.out _).mono ?_); rintro e w5 ⟨rfl, hb5⟩; have bR5 := bRo.below hb5; have h5 := hbo.trans (hb5.mono hbo.size))
          refine ⟨⟨n + 1, by go_num, hlt, HQ, h5, bR5⟩, ?_⟩
          simp [intOf]
          go_num
    · clear HN HA HM
      rcases hop with rfl | rfl | rfl
      all_goals
        go_wp2_with (go_at_call 28; have hC := HP.out _ hb; (with_reducible refine hC.mono ?_); clear hC; rintro e w7 ⟨rfl, hb7⟩; have bR7 := bR.below hb7; have h7 := hb.trans (hb7.mono hb.size); have r0 := bR7.cell 0; have r1 := bR7.cell 1; have r2 := bR7.cell 2; have f0 := bR7.frozen 0; have f1 := bR7.frozen 1; have f2 := bR7.frozen 2; simp only [List.getElem?_toArray, List.getElem?_cons_zero, List.getElem?_cons_succ] at r0 r1 r2)
        refine bodyPost_ret ?_ rfl ⟨rfl, ?_⟩
        · simp [results, Tryd.results7, go_sem, r0, r1, r2]
        · exact (((h7.setCell (by simp; try omega) _).setCell (by simp; try omega) _).setCell (by simp; try omega) _)

set_option maxRecDepth 100000 in
set_option maxHeartbeats 8000000 in
theorem refApply_cmp (op : Int) (hop : op = 7 ∨ op = 8 ∨ op = 9 ∨ op = 10 ∨ op = 11 ∨ op = 12) (L : List Dat) (v : Value) (w : World) (hv : DatV w v L) (h0 : 0 < L.length) (hl : (L.length : Int) = arityR op) (ha : L.all rightD = true) (t : Tri) (HP : Hid (∀ w', Below w.heap.size w w' → Calls Tryd.prog 30 #[.int .i64 op, v] w' (ResT t w'))) :
    Calls Tryd.prog 7 #[.int .i64 op, v] w (ResT t w) := by
  obtain ⟨A, c, rfl, hc, hm⟩ := hv.len
  have HM := Lib.hid (fun w => many_any op w)
  rw [← hl] at HM
  have hm0 : ((L.length : Int) == 0) = false := beq_eq_false_iff_ne.2 (by omega)
  have HV := Lib.hid hv
  have HA := Lib.hid ha
  clear hv hl h0 ha
  unfold maxLen at hm
  have hb0 := (Below.refl w.heap.size w).alloc (Nat.le_refl _) (.cells #[.int .i64 0, .int .i64 0, .string noText] 24)
  have bR := Blk.new w #[.int .i64 0, .int .i64 0, .string noText] 24
  go_enter Tryd.func7, Tryd.ntmps7
  go_wp2_with (go_at_call 26; (with_reducible refine (HM.out _).mono ?_); rintro e w' ⟨rfl, rfl⟩)
  go_loopw [21] (fun i wr => ∃ n : Nat, i = .int .i64 n ∧ n ≤ L.length ∧ Hid ((L.take n).all rightD = true) ∧ Below w.heap.size w wr ∧ Blk wr w.heap.size #[.int .i64 0, .int .i64 0, .string noText] 24) (fun i _ => L.length - (intOf i).toNat)
  case atStart => exact ⟨0, rfl, Nat.zero_le _, rfl, hb0, bR⟩
  case round =>
    clear hb0 bR
    obtain ⟨n, rfl, hn, HN, hb, bR⟩ := hrel
    by_cases hlt : n < L.length
    · rcases HV.out with ⟨_, h0⟩ | ⟨b, off, c', e, _, hbl, hat, _⟩
      · rw [h0] at hlt; simp at hlt
      · injection e with e1 e2 e3
        subst e1 e3
        obtain ⟨h0, h1, h2⟩ := (hat.block (hb.block b hbl)).dat n hlt
        have HP : Hid (rightD L[n] = true → (L.take (n + 1)).all rightD = true) := fun hp => all_take hlt HN.out hp
        have HE : Hid (L[n] ∈ L) := List.getElem_mem hlt
        clear hat hbl hn HN
        revert HP HE h0 h1 h2
        generalize L[n] = d
        obtain ⟨dk, di, ds⟩ := d
        intro h0 h1 h2 HP HE
        simp only at h0 h1 h2
        have hz := hb.size
        have hn1 : (n : Int) + 1 ≤ 9223372036854775807 := by omega
        have HR := Lib.hid (fun w => refRight_any dk di ds w)
        have bRo := bR.alloc (.cells #[.int .i64 dk, .int .i64 di, .string ds] 24)
        have hbo := hb.alloc hz (.cells #[.int .i64 dk, .int .i64 di, .string ds] 24)
        clear HM
        cases hd : rightD ⟨dk, di, ds⟩
        · have := List.all_eq_true.1 HA.out _ HE.out
          rw [hd] at this
          cases this
        · rw [hd] at HR
          have HQ := Lib.hid (HP.out hd)
          clear hd HP HA HE
          go_wp2_with (go_at_call 12; (with_reducible refine (HR.out _).mono ?_); rintro e w5 ⟨rfl, hb5⟩; have bR5 := bRo.below hb5; have h5 := hbo.trans (hb5.mono hbo.size))
          refine ⟨⟨n + 1, by go_num, hlt, HQ, h5, bR5⟩, ?_⟩
          simp [intOf]
          go_num
    · clear HN HA HM
      rcases hop with rfl | rfl | rfl | rfl | rfl | rfl
      all_goals
        go_wp2_with (go_at_call 30; have hC := HP.out _ hb; (with_reducible refine hC.mono ?_); clear hC; rintro e w7 ⟨rfl, hb7⟩; have bR7 := bR.below hb7; have h7 := hb.trans (hb7.mono hb.size); have r0 := bR7.cell 0; have r1 := bR7.cell 1; have r2 := bR7.cell 2; have f0 := bR7.frozen 0; have f1 := bR7.frozen 1; have f2 := bR7.frozen 2; simp only [List.getElem?_toArray, List.getElem?_cons_zero, List.getElem?_cons_succ] at r0 r1 r2)
        refine bodyPost_ret ?_ rfl ⟨rfl, ?_⟩
        · simp [results, Tryd.results7, go_sem, r0, r1, r2]
        · exact (((h7.setCell (by simp; try omega) _).setCell (by simp; try omega) _).setCell (by simp; try omega) _)

set_option maxRecDepth 100000 in
set_option maxHeartbeats 8000000 in
theorem refApply_arith (op : Int) (hop : op = 1 ∨ op = 3 ∨ op = 4 ∨ op = 5 ∨ op = 6 ∨ op = 19 ∨ op = 20) (L : List Dat) (v : Value) (w : World) (hv : DatV w v L) (h0 : 0 < L.length) (hl : (L.length : Int) = arityR op) (ha : L.all rightD = true) (t : Tri) (ho : onlyR 2 3 L = true) (HP : Hid (∀ w', Below w.heap.size w w' → Calls Tryd.prog 32 #[.int .i64 op, v] w' (ResT t w'))) :
    Calls Tryd.prog 7 #[.int .i64 op, v] w (ResT t w) := by
  obtain ⟨A, c, rfl, hc, hm⟩ := hv.len
  have HM := Lib.hid (fun w => many_any op w)
  rw [← hl] at HM
  have hm0 : ((L.length : Int) == 0) = false := beq_eq_false_iff_ne.2 (by omega)
  have HV := Lib.hid hv
  have HA := Lib.hid ha
  have HO := Lib.hid (fun w' (hb : Below w.heap.size w w') => only_any 2 3 L _ w' (hv.below hb))
  clear hv hl h0 ha
  unfold maxLen at hm
  have hb0 := (Below.refl w.heap.size w).alloc (Nat.le_refl _) (.cells #[.int .i64 0, .int .i64 0, .string noText] 24)
  have bR := Blk.new w #[.int .i64 0, .int .i64 0, .string noText] 24
  go_enter Tryd.func7, Tryd.ntmps7
  go_wp2_with (go_at_call 26; (with_reducible refine (HM.out _).mono ?_); rintro e w' ⟨rfl, rfl⟩)
  go_loopw [21] (fun i wr => ∃ n : Nat, i = .int .i64 n ∧ n ≤ L.length ∧ Hid ((L.take n).all rightD = true) ∧ Below w.heap.size w wr ∧ Blk wr w.heap.size #[.int .i64 0, .int .i64 0, .string noText] 24) (fun i _ => L.length - (intOf i).toNat)
  case atStart => exact ⟨0, rfl, Nat.zero_le _, rfl, hb0, bR⟩
  case round =>
    clear hb0 bR
    obtain ⟨n, rfl, hn, HN, hb, bR⟩ := hrel
    by_cases hlt : n < L.length
    · rcases HV.out with ⟨_, h0⟩ | ⟨b, off, c', e, _, hbl, hat, _⟩
      · rw [h0] at hlt; simp at hlt
      · injection e with e1 e2 e3
        subst e1 e3
        obtain ⟨h0, h1, h2⟩ := (hat.block (hb.block b hbl)).dat n hlt
        have HP : Hid (rightD L[n] = true → (L.take (n + 1)).all rightD = true) := fun hp => all_take hlt HN.out hp
        have HE : Hid (L[n] ∈ L) := List.getElem_mem hlt
        clear hat hbl hn HN
        revert HP HE h0 h1 h2
        generalize L[n] = d
        obtain ⟨dk, di, ds⟩ := d
        intro h0 h1 h2 HP HE
        simp only at h0 h1 h2
        have hz := hb.size
        have hn1 : (n : Int) + 1 ≤ 9223372036854775807 := by omega
        have HR := Lib.hid (fun w => refRight_any dk di ds w)
        have bRo := bR.alloc (.cells #[.int .i64 dk, .int .i64 di, .string ds] 24)
        have hbo := hb.alloc hz (.cells #[.int .i64 dk, .int .i64 di, .string ds] 24)
        clear HM
        cases hd : rightD ⟨dk, di, ds⟩
        · have := List.all_eq_true.1 HA.out _ HE.out
          rw [hd] at this
          cases this
        · rw [hd] at HR
          have HQ := Lib.hid (HP.out hd)
          clear hd HP HA HE
          go_wp2_with (go_at_call 12; (with_reducible refine (HR.out _).mono ?_); rintro e w5 ⟨rfl, hb5⟩; have bR5 := bRo.below hb5; have h5 := hbo.trans (hb5.mono hbo.size))
          refine ⟨⟨n + 1, by go_num, hlt, HQ, h5, bR5⟩, ?_⟩
          simp [intOf]
          go_num
    · clear HN HA HM
      rcases hop with rfl | rfl | rfl | rfl | rfl | rfl | rfl
      all_goals
        rw [ho] at HO
        go_wp2_with (first
          | (go_at_call 31; have hC := HO.out _ hb; (with_reducible refine hC.mono ?_); clear hC; rintro e w6 ⟨rfl, hb6⟩; have bR6 := bR.below hb6; have h6 := hb.trans (hb6.mono hb.size))
          | (go_at_call 32; have hC := HP.out _ h6; (with_reducible refine hC.mono ?_); clear hC; rintro e w7 ⟨rfl, hb7⟩; have bR7 := bR6.below hb7; have h7 := h6.trans (hb7.mono h6.size); have r0 := bR7.cell 0; have r1 := bR7.cell 1; have r2 := bR7.cell 2; have f0 := bR7.frozen 0; have f1 := bR7.frozen 1; have f2 := bR7.frozen 2; simp only [List.getElem?_toArray, List.getElem?_cons_zero, List.getElem?_cons_succ] at r0 r1 r2))
        refine bodyPost_ret ?_ rfl ⟨rfl, ?_⟩
        · simp [results, Tryd.results7, go_sem, r0, r1, r2]
        · exact (((h7.setCell (by simp; try omega) _).setCell (by simp; try omega) _).setCell (by simp; try omega) _)

set_option maxRecDepth 100000 in
set_option maxHeartbeats 8000000 in
theorem refApply_kind (op : Int) (hop : op = 1 ∨ op = 3 ∨ op = 4 ∨ op = 5 ∨ op = 6 ∨ op = 19 ∨ op = 20) (L : List Dat) (v : Value) (w : World) (hv : DatV w v L) (h0 : 0 < L.length) (hl : (L.length : Int) = arityR op) (ha : L.all rightD = true) (ho : onlyR 2 3 L = false) :
    Calls Tryd.prog 7 #[.int .i64 op, v] w (ResPost 0 0 5 w) := by
  obtain ⟨A, c, rfl, hc, hm⟩ := hv.len
  have HM := Lib.hid (fun w => many_any op w)
  rw [← hl] at HM
  have hm0 : ((L.length : Int) == 0) = false := beq_eq_false_iff_ne.2 (by omega)
  have HV := Lib.hid hv
  have HA := Lib.hid ha
  have HO := Lib.hid (fun w' (hb : Below w.heap.size w w') => only_any 2 3 L _ w' (hv.below hb))
  clear hv hl h0 ha
  unfold maxLen at hm
  have hb0 := (Below.refl w.heap.size w).alloc (Nat.le_refl _) (.cells #[.int .i64 0, .int .i64 0, .string noText] 24)
  have bR := Blk.new w #[.int .i64 0, .int .i64 0, .string noText] 24
  go_enter Tryd.func7, Tryd.ntmps7
  go_wp2_with (go_at_call 26; (with_reducible refine (HM.out _).mono ?_); rintro e w' ⟨rfl, rfl⟩)
  go_loopw [21] (fun i wr => ∃ n : Nat, i = .int .i64 n ∧ n ≤ L.length ∧ Hid ((L.take n).all rightD = true) ∧ Below w.heap.size w wr ∧ Blk wr w.heap.size #[.int .i64 0, .int .i64 0, .string noText] 24) (fun i _ => L.length - (intOf i).toNat)
  case atStart => exact ⟨0, rfl, Nat.zero_le _, rfl, hb0, bR⟩
  case round =>
    clear hb0 bR
    obtain ⟨n, rfl, hn, HN, hb, bR⟩ := hrel
    by_cases hlt : n < L.length
    · rcases HV.out with ⟨_, h0⟩ | ⟨b, off, c', e, _, hbl, hat, _⟩
      · rw [h0] at hlt; simp at hlt
      · injection e with e1 e2 e3
        subst e1 e3
        obtain ⟨h0, h1, h2⟩ := (hat.block (hb.block b hbl)).dat n hlt
        have HP : Hid (rightD L[n] = true → (L.take (n + 1)).all rightD = true) := fun hp => all_take hlt HN.out hp
        have HE : Hid (L[n] ∈ L) := List.getElem_mem hlt
        clear hat hbl hn HN
        revert HP HE h0 h1 h2
        generalize L[n] = d
        obtain ⟨dk, di, ds⟩ := d
        intro h0 h1 h2 HP HE
        simp only at h0 h1 h2
        have hz := hb.size
        have hn1 : (n : Int) + 1 ≤ 9223372036854775807 := by omega
        have HR := Lib.hid (fun w => refRight_any dk di ds w)
        have bRo := bR.alloc (.cells #[.int .i64 dk, .int .i64 di, .string ds] 24)
        have hbo := hb.alloc hz (.cells #[.int .i64 dk, .int .i64 di, .string ds] 24)
        clear HM
        cases hd : rightD ⟨dk, di, ds⟩
        · have := List.all_eq_true.1 HA.out _ HE.out
          rw [hd] at this
          cases this
        · rw [hd] at HR
          have HQ := Lib.hid (HP.out hd)
          clear hd HP HA HE
          go_wp2_with (go_at_call 12; (with_reducible refine (HR.out _).mono ?_); rintro e w5 ⟨rfl, hb5⟩; have bR5 := bRo.below hb5; have h5 := hbo.trans (hb5.mono hbo.size))
          refine ⟨⟨n + 1, by go_num, hlt, HQ, h5, bR5⟩, ?_⟩
          simp [intOf]
          go_num
    · clear HN HA HM
      rcases hop with rfl | rfl | rfl | rfl | rfl | rfl | rfl
      all_goals
        rw [ho] at HO
        go_wp2_with (go_at_call 31; have hC := HO.out _ hb; (with_reducible refine hC.mono ?_); clear hC; rintro e w6 ⟨rfl, hb6⟩; have bR6 := bR.below hb6; have h6 := hb.trans (hb6.mono hb.size); have r0 := bR6.cell 0; have r1 := bR6.cell 1; have r2 := bR6.cell 2; have f0 := bR6.frozen 0; have f1 := bR6.frozen 1; have f2 := bR6.frozen 2; simp only [List.getElem?_toArray, List.getElem?_cons_zero, List.getElem?_cons_succ] at r0 r1 r2)
        refine bodyPost_ret ?_ rfl ⟨rfl, ?_⟩
        · simp [results, Tryd.results7, go_sem, r0, r1, r2]
        · exact (((h6.setCell (by simp; try omega) _).setCell (by simp; try omega) _).setCell (by simp; try omega) _)

set_option maxRecDepth 100000 in
set_option maxHeartbeats 8000000 in
theorem refApply_length (op : Int) (hop : op = 18) (L : List Dat) (v : Value) (w : World) (hv : DatV w v L) (a : Dat) (hL : L = [a]) (h0 : 0 < L.length) (hl : (L.length : Int) = arityR op) (ha : L.all rightD = true) (t : Tri) (HP : Hid (∀ w', Calls Tryd.prog 29 #[datVal a] w' (ResT t w'))) :
    Calls Tryd.prog 7 #[.int .i64 op, v] w (ResT t w) := by
  obtain ⟨A, c, rfl, hc, hm⟩ := hv.len
  have HM := Lib.hid (fun w => many_any op w)
  rw [← hl] at HM
  have hm0 : ((L.length : Int) == 0) = false := beq_eq_false_iff_ne.2 (by omega)
  have HV := Lib.hid hv
  have HA := Lib.hid ha
  have HL := Lib.hid hL
  have HOP := Lib.hid hop
  clear hv hl h0 ha hL hop
  unfold maxLen at hm
  have hb0 := (Below.refl w.heap.size w).alloc (Nat.le_refl _) (.cells #[.int .i64 0, .int .i64 0, .string noText] 24)
  have bR := Blk.new w #[.int .i64 0, .int .i64 0, .string noText] 24
  go_enter Tryd.func7, Tryd.ntmps7
  go_wp2_with (go_at_call 26; (with_reducible refine (HM.out _).mono ?_); rintro e w' ⟨rfl, rfl⟩)
  go_loopw [21] (fun i wr => ∃ n : Nat, i = .int .i64 n ∧ n ≤ L.length ∧ Hid ((L.take n).all rightD = true) ∧ Below w.heap.size w wr ∧ Blk wr w.heap.size #[.int .i64 0, .int .i64 0, .string noText] 24) (fun i _ => L.length - (intOf i).toNat)
  case atStart => exact ⟨0, rfl, Nat.zero_le _, rfl, hb0, bR⟩
  case round =>
    clear hb0 bR
    obtain ⟨n, rfl, hn, HN, hb, bR⟩ := hrel
    by_cases hlt : n < L.length
    · rcases HV.out with ⟨_, h0⟩ | ⟨b, off, c', e, _, hbl, hat, _⟩
      · rw [h0] at hlt; simp at hlt
      · injection e with e1 e2 e3
        subst e1 e3
        obtain ⟨h0, h1, h2⟩ := (hat.block (hb.block b hbl)).dat n hlt
        have HP : Hid (rightD L[n] = true → (L.take (n + 1)).all rightD = true) := fun hp => all_take hlt HN.out hp
        have HE : Hid (L[n] ∈ L) := List.getElem_mem hlt
        clear hat hbl hn HN
        revert HP HE h0 h1 h2
        generalize L[n] = d
        obtain ⟨dk, di, ds⟩ := d
        intro h0 h1 h2 HP HE
        simp only at h0 h1 h2
        have hz := hb.size
        have hn1 : (n : Int) + 1 ≤ 9223372036854775807 := by omega
        have HR := Lib.hid (fun w => refRight_any dk di ds w)
        have bRo := bR.alloc (.cells #[.int .i64 dk, .int .i64 di, .string ds] 24)
        have hbo := hb.alloc hz (.cells #[.int .i64 dk, .int .i64 di, .string ds] 24)
        clear HM
        cases hd : rightD ⟨dk, di, ds⟩
        · have := List.all_eq_true.1 HA.out _ HE.out
          rw [hd] at this
          cases this
        · rw [hd] at HR
          have HQ := Lib.hid (HP.out hd)
          clear hd HP HA HE
          go_wp2_with (go_at_call 12; (with_reducible refine (HR.out _).mono ?_); rintro e w5 ⟨rfl, hb5⟩; have bR5 := bRo.below hb5; have h5 := hbo.trans (hb5.mono hbo.size))
          refine ⟨⟨n + 1, by go_num, hlt, HQ, h5, bR5⟩, ?_⟩
          simp [intOf]
          go_num
    · clear HN HA HM
      have hop := HOP.out
      subst hop
      have hL := HL.out
      rcases HV.out with ⟨_, q0⟩ | ⟨b, off, c', e, _, hbl, hat, _⟩
      · rw [hL] at q0; cases q0
      · injection e with e1 e2 e3
        subst e1 e3
        have hlt0 : 0 < L.length := by rw [hL]; simp
        obtain ⟨x0, x1, x2⟩ := (hat.block (hb.block b hbl)).dat 0 hlt0
        have e0 : L[0] = a := by simp [hL]
        rw [e0] at x0 x1 x2
        simp only [Nat.zero_mul, Nat.add_zero] at x0 x1 x2
        have hl1 : L.length = 1 := by rw [hL]; rfl
        have hc1 : (1 : Int) ≤ c := by omega
        obtain rfl : n = 1 := by omega
        rw [hl1]
        clear hat e0 HV hL hl1 hlt hn hlt0
        go_wp2_with (go_at_call 29; (with_reducible refine (HP.out _).mono ?_); rintro e w7 ⟨rfl, hb7⟩; have bR7 := bR.below hb7; have h7 := hb.trans (hb7.mono hb.size); have r0 := bR7.cell 0; have r1 := bR7.cell 1; have r2 := bR7.cell 2; have f0 := bR7.frozen 0; have f1 := bR7.frozen 1; have f2 := bR7.frozen 2; simp only [List.getElem?_toArray, List.getElem?_cons_zero, List.getElem?_cons_succ] at r0 r1 r2)
        refine bodyPost_ret ?_ rfl ⟨rfl, ?_⟩
        · simp [results, Tryd.results7, go_sem, r0, r1, r2]
        · exact (((h7.setCell (by simp; try omega) _).setCell (by simp; try omega) _).setCell (by simp; try omega) _)

set_option maxRecDepth 100000 in
set_option maxHeartbeats 8000000 in
theorem refApply_isnull (op : Int) (hop : op = 15) (L : List Dat) (v : Value) (w : World) (hv : DatV w v L) (a : Dat) (hL : L = [a]) (h0 : 0 < L.length) (hl : (L.length : Int) = arityR op) (ha : L.all rightD = true) :
    Calls Tryd.prog 7 #[.int .i64 op, v] w (ResT (1, bitOf (a.k == 0), 0) w) := by
  obtain ⟨A, c, rfl, hc, hm⟩ := hv.len
  have HM := Lib.hid (fun w => many_any op w)
  rw [← hl] at HM
  have hm0 : ((L.length : Int) == 0) = false := beq_eq_false_iff_ne.2 (by omega)
  have HV := Lib.hid hv
  have HA := Lib.hid ha
  have HL := Lib.hid hL
  have HOP := Lib.hid hop
  clear hv hl h0 ha hL hop
  unfold maxLen at hm
  have hb0 := (Below.refl w.heap.size w).alloc (Nat.le_refl _) (.cells #[.int .i64 0, .int .i64 0, .string noText] 24)
  have bR := Blk.new w #[.int .i64 0, .int .i64 0, .string noText] 24
  go_enter Tryd.func7, Tryd.ntmps7
  go_wp2_with (go_at_call 26; (with_reducible refine (HM.out _).mono ?_); rintro e w' ⟨rfl, rfl⟩)
  go_loopw [21] (fun i wr => ∃ n : Nat, i = .int .i64 n ∧ n ≤ L.length ∧ Hid ((L.take n).all rightD = true) ∧ Below w.heap.size w wr ∧ Blk wr w.heap.size #[.int .i64 0, .int .i64 0, .string noText] 24) (fun i _ => L.length - (intOf i).toNat)
  case atStart => exact ⟨0, rfl, Nat.zero_le _, rfl, hb0, bR⟩
  case round =>
    clear hb0 bR
    obtain ⟨n, rfl, hn, HN, hb, bR⟩ := hrel
    by_cases hlt : n < L.length
    · rcases HV.out with ⟨_, h0⟩ | ⟨b, off, c', e, _, hbl, hat, _⟩
      · rw [h0] at hlt; simp at hlt
      · injection e with e1 e2 e3
        subst e1 e3
        obtain ⟨h0, h1, h2⟩ := (hat.block (hb.block b hbl)).dat n hlt
        have HP : Hid (rightD L[n] = true → (L.take (n + 1)).all rightD = true) := fun hp => all_take hlt HN.out hp
        have HE : Hid (L[n] ∈ L) := List.getElem_mem hlt
        clear hat hbl hn HN
        revert HP HE h0 h1 h2
        generalize L[n] = d
        obtain ⟨dk, di, ds⟩ := d
        intro h0 h1 h2 HP HE
        simp only at h0 h1 h2
        have hz := hb.size
        have hn1 : (n : Int) + 1 ≤ 9223372036854775807 := by omega
        have HR := Lib.hid (fun w => refRight_any dk di ds w)
        have bRo := bR.alloc (.cells #[.int .i64 dk, .int .i64 di, .string ds] 24)
        have hbo := hb.alloc hz (.cells #[.int .i64 dk, .int .i64 di, .string ds] 24)
        clear HM
        cases hd : rightD ⟨dk, di, ds⟩
        · have := List.all_eq_true.1 HA.out _ HE.out
          rw [hd] at this
          cases this
        · rw [hd] at HR
          have HQ := Lib.hid (HP.out hd)
          clear hd HP HA HE
          go_wp2_with (go_at_call 12; (with_reducible refine (HR.out _).mono ?_); rintro e w5 ⟨rfl, hb5⟩; have bR5 := bRo.below hb5; have h5 := hbo.trans (hb5.mono hbo.size))
          refine ⟨⟨n + 1, by go_num, hlt, HQ, h5, bR5⟩, ?_⟩
          simp [intOf]
          go_num
    · clear HN HA HM
      have hop := HOP.out
      subst hop
      have hL := HL.out
      rcases HV.out with ⟨_, q0⟩ | ⟨b, off, c', e, _, hbl, hat, _⟩
      · rw [hL] at q0; cases q0
      · injection e with e1 e2 e3
        subst e1 e3
        have hlt0 : 0 < L.length := by rw [hL]; simp
        obtain ⟨x0, x1, x2⟩ := (hat.block (hb.block b hbl)).dat 0 hlt0
        have e0 : L[0] = a := by simp [hL]
        rw [e0] at x0 x1 x2
        simp only [Nat.zero_mul, Nat.add_zero] at x0 x1 x2
        have hl1 : L.length = 1 := by rw [hL]; rfl
        have hc1 : (1 : Int) ≤ c := by omega
        obtain rfl : n = 1 := by omega
        rw [hl1]
        clear hat e0 HV hL hl1 hlt hn hlt0
        go_wp2_with (go_at_call 27; (with_reducible refine (refBool_any _ _).mono ?_); rintro e w7 ⟨rfl, hb7⟩; have bR7 := bR.below hb7; have h7 := hb.trans (hb7.mono hb.size); have r0 := bR7.cell 0; have r1 := bR7.cell 1; have r2 := bR7.cell 2; have f0 := bR7.frozen 0; have f1 := bR7.frozen 1; have f2 := bR7.frozen 2; simp only [List.getElem?_toArray, List.getElem?_cons_zero, List.getElem?_cons_succ] at r0 r1 r2)
        refine bodyPost_ret ?_ rfl ⟨rfl, ?_⟩
        · simp [results, Tryd.results7, go_sem, r0, r1, r2, bitOf]
        · exact (((h7.setCell (by simp; try omega) _).setCell (by simp; try omega) _).setCell (by simp; try omega) _)

def partR (op : Int) : List Dat → Tri
  | [a] => oneR op a
  | [a, b] => bothR op a b
  | _ => (0, 0, 1)
theorem appR_eq {op : Int} {L : List Dat} (h0 : arityR op ≠ 0) (hl : (L.length : Int) = arityR op) (ha : L.all rightD = true) : appR op L = partR op L := by
  unfold appR
  rw [if_neg (by rw [ha]; simp; omega)]
  match L with
  | [] => rfl
  | [_] => rfl
  | [_, _] => rfl
  | _ :: _ :: _ :: _ => rfl
theorem only_one (f t : Int) (a : Dat) : onlyR f t [a] = okEl f t a := by
  unfold onlyR
  simp

theorem refApply_one (op : Int) (hop : op = 1 ∨ op = 2 ∨ op = 15 ∨ op = 18 ∨ op = 19 ∨ op = 20) (a : Dat) (v : Value) (w : World) (hv : DatV w v [a]) (ha : rightD a = true) (hI : InI a) :
    Calls Tryd.prog 7 #[.int .i64 op, v] w (ResT (oneR op a) w) := by
  have hA : [a].all rightD = true := by simp [ha]
  have hl : (([a] : List Dat).length : Int) = arityR op := by
    unfold arityR
    rw [if_pos hop]; rfl
  have hn := has_null1 ha
  have hp : 0 < ([a] : List Dat).length := by simp
  have arith : (op = 1 ∨ op = 19 ∨ op = 20) → Calls Tryd.prog 7 #[.int .i64 op, v] w (ResT (unR op a) w) := by
    intro ho
    have hop7 : op = 1 ∨ op = 3 ∨ op = 4 ∨ op = 5 ∨ op = 6 ∨ op = 19 ∨ op = 20 := by omega
    unfold unR
    rw [← only_one]
    cases hk : onlyR 2 3 [a]
    · rw [if_pos rfl]
      exact refApply_kind op hop7 [a] v w hv hp hl hA hk
    · rw [if_neg (by decide)]
      refine refApply_arith op hop7 [a] v w hv hp hl hA _ hk (Lib.hid fun w' hb => ?_)
      by_cases h0 : a.k = 0
      · rw [if_pos h0]
        exact arith_null op [a] v w' (hv.below hb) (by rw [hn]; exact decide_eq_true h0)
      · rw [if_neg h0]
        have hn' : hasR nullD [a] = false := by rw [hn]; exact decide_eq_false h0
        rcases ho with rfl | rfl | rfl
        · rw [if_neg (by decide), if_pos (.inl rfl)]
          exact arith_neg a v w' (hv.below hb) hn' hI
        · rw [if_neg (by decide)]
          by_cases hi : a.i < 0
          · rw [if_pos (.inr hi)]
            exact arith_abs_neg a v w' (hv.below hb) hn' hI hi
          · rw [if_neg (by omega)]
            refine arith_abs_pos a v w' (hv.below hb) hn' hi (right_num ha ?_)
            rw [only_one] at hk
            have := of_decide_eq_true hk
            omega
        · rw [if_pos rfl]
          exact arith_dec a v w' (hv.below hb) hn' hI
  unfold oneR
  rcases hop with rfl | rfl | rfl | rfl | rfl | rfl
  · exact arith (.inl rfl)
  · rw [if_neg (by decide), if_pos rfl, not_eq]
    refine refApply_logic 2 (.inl rfl) [a] v w hv hp hl hA _ (Lib.hid fun w' hb => ?_)
    cases ho : onlyR 1 1 [a]
    · rw [if_pos rfl]
      exact logic_type 2 [a] v w' (hv.below hb) ho
    · rw [if_neg (by decide)]
      exact logic_not a v w' (hv.below hb) ho
  · rw [if_pos rfl]
    exact refApply_isnull 15 rfl [a] v w hv a rfl hp hl hA
  · rw [if_neg (by decide), if_neg (by decide), if_pos rfl]
    exact refApply_length 18 rfl [a] v w hv a rfl hp hl hA _ (Lib.hid fun w' => refLen_any a ha w')
  · exact arith (.inr (.inl rfl))
  · exact arith (.inr (.inr rfl))

theorem refApply_two (op : Int) (hop : 3 ≤ op ∧ op ≤ 14) (a b : Dat) (v : Value) (w : World) (hv : DatV w v [a, b]) (ha : rightD a = true) (hb : rightD b = true) (hI : InI a) (hJ : InI b) :
    Calls Tryd.prog 7 #[.int .i64 op, v] w (ResT (bothR op a b) w) := by
  have hA : [a, b].all rightD = true := by simp [ha, hb]
  have hl : (([a, b] : List Dat).length : Int) = arityR op := by
    unfold arityR
    rw [if_neg (by omega), if_pos hop]; rfl
  have hn := has_null2 ha hb
  have hp : 0 < ([a, b] : List Dat).length := by simp
  unfold bothR
  by_cases o13 : op = 13
  · subst o13
    rw [if_pos rfl, join_eq ha hb 0 (.inl rfl)]
    refine refApply_logic 13 (by omega) [a, b] v w hv hp hl hA _ (Lib.hid fun w' hw => ?_)
    cases ho : onlyR 1 1 [a, b]
    · rw [if_pos rfl]
      exact logic_type 13 [a, b] v w' (hv.below hw) ho
    · rw [if_neg (by decide)]
      exact logic_and [a, b] v w' (hv.below hw) ho
  · rw [if_neg o13]
    by_cases o14 : op = 14
    · subst o14
      rw [if_pos rfl, join_eq ha hb 1 (.inr rfl)]
      refine refApply_logic 14 (by omega) [a, b] v w hv hp hl hA _ (Lib.hid fun w' hw => ?_)
      cases ho : onlyR 1 1 [a, b]
      · rw [if_pos rfl]
        exact logic_type 14 [a, b] v w' (hv.below hw) ho
      · rw [if_neg (by decide)]
        exact logic_or [a, b] v w' (hv.below hw) ho
    · rw [if_neg o14]
      by_cases oc : 7 ≤ op ∧ op ≤ 12
      · rw [if_pos oc]
        have hop6 : op = 7 ∨ op = 8 ∨ op = 9 ∨ op = 10 ∨ op = 11 ∨ op = 12 := by omega
        refine refApply_cmp op hop6 [a, b] v w hv hp hl hA _ (Lib.hid fun w' hw => ?_)
        unfold relR
        by_cases k1 : a.k = 0
        · rw [if_pos (.inl k1)]
          exact cmp_null1 op a b v w' (hv.below hw) k1
        · by_cases k2 : b.k = 0
          · rw [if_pos (.inr k2)]
            exact cmp_null2 op a b v w' (hv.below hw) k1 k2
          · rw [if_neg (by omega)]
            have hnum : onlyR 2 3 [a, b] = (numB a.k && numB b.k) := by
              unfold onlyR okEl numB
              simp only [List.all_cons, List.all_nil, Bool.and_true]
              congr 1
              · rw [Bool.eq_iff_iff]
                simp
                omega
              · rw [Bool.eq_iff_iff]
                simp
                omega
            rw [← hnum]
            cases ho : onlyR 2 3 [a, b]
            · rw [if_neg (by decide)]
              by_cases hk : a.k = b.k
              · rw [if_neg (by omega)]
                rcases hop6 with rfl | rfl | rfl | rfl | rfl | rfl
                · exact cmp_same_7 a b v w' (hv.below hw) k1 k2 ho hk _ rfl
                · exact cmp_same_8 a b v w' (hv.below hw) k1 k2 ho hk _ rfl
                · exact cmp_same_9 a b v w' (hv.below hw) k1 k2 ho hk _ rfl
                · exact cmp_same_10 a b v w' (hv.below hw) k1 k2 ho hk _ rfl
                · exact cmp_same_11 a b v w' (hv.below hw) k1 k2 ho hk _ rfl
                · exact cmp_same_12 a b v w' (hv.below hw) k1 k2 ho hk _ rfl
              · rw [if_pos hk]
                exact cmp_type op a b v w' (hv.below hw) k1 k2 ho hk
            · rw [if_pos rfl]
              rcases hop6 with rfl | rfl | rfl | rfl | rfl | rfl
              · exact cmp_num_7 a b v w' (hv.below hw) hI hJ k1 k2 ho _ rfl
              · exact cmp_num_8 a b v w' (hv.below hw) hI hJ k1 k2 ho _ rfl
              · exact cmp_num_9 a b v w' (hv.below hw) hI hJ k1 k2 ho _ rfl
              · exact cmp_num_10 a b v w' (hv.below hw) hI hJ k1 k2 ho _ rfl
              · exact cmp_num_11 a b v w' (hv.below hw) hI hJ k1 k2 ho _ rfl
              · exact cmp_num_12 a b v w' (hv.below hw) hI hJ k1 k2 ho _ rfl
      · rw [if_neg oc]
        have hop4 : op = 3 ∨ op = 4 ∨ op = 5 ∨ op = 6 := by omega
        have hop7 : op = 1 ∨ op = 3 ∨ op = 4 ∨ op = 5 ∨ op = 6 ∨ op = 19 ∨ op = 20 := by omega
        unfold binR
        cases hk : onlyR 2 3 [a, b]
        · rw [if_pos rfl]
          exact refApply_kind op hop7 [a, b] v w hv hp hl hA hk
        · rw [if_neg (by decide)]
          refine refApply_arith op hop7 [a, b] v w hv hp hl hA _ hk (Lib.hid fun w' hw => ?_)
          by_cases h0 : a.k = 0 ∨ b.k = 0
          · rw [if_pos h0]
            exact arith_null op [a, b] v w' (hv.below hw) (by rw [hn]; exact decide_eq_true h0)
          · rw [if_neg h0]
            have hn' : hasR nullD [a, b] = false := by rw [hn]; exact decide_eq_false h0
            by_cases h1 : a.k = 2
            · by_cases h2 : b.k = 2
              · rw [if_pos ⟨h1, h2⟩]
                exact arith_int op a b v w' (hv.below hw) hn' hop4 hI hJ h1 h2
              · rw [if_neg (fun h => h2 h.2)]
                cases fa : fitsB (numZ a.k a.i)
                · rw [if_pos (by simp)]
                  exact arith_id_na op a b v w' (hv.below hw) hn' hop4 hI hJ _ h1 h2 fa rfl
                · cases fb : fitsB (numZ b.k b.i)
                  · rw [if_pos (by simp)]
                    exact arith_id_nb op a b v w' (hv.below hw) hn' hop4 hI hJ h1 h2 fa fb
                  · rw [if_neg (by simp)]
                    exact arith_id_yes op a b v w' (hv.below hw) hn' hop4 hI hJ h1 h2 fa fb
            · rw [if_neg (fun h => h1 h.1)]
              cases fa : fitsB (numZ a.k a.i)
              · rw [if_pos (by simp)]
                exact arith_d_na op a b v w' (hv.below hw) hn' hop4 hI hJ _ h1 fa rfl
              · cases fb : fitsB (numZ b.k b.i)
                · rw [if_pos (by simp)]
                  exact arith_d_nb op a b v w' (hv.below hw) hn' hop4 hI hJ h1 fa fb
                · rw [if_neg (by simp)]
                  exact arith_d_yes op a b v w' (hv.below hw) hn' hop4 hI hJ h1 fa fb

theorem arity_cases {op : Int} (h : arityR op ≠ 0) : (arityR op = 1 ∧ (op = 1 ∨ op = 2 ∨ op = 15 ∨ op = 18 ∨ op = 19 ∨ op = 20)) ∨ (arityR op = 2 ∧ 3 ≤ op ∧ op ≤ 14) := by
  by_cases h1 : op = 1 ∨ op = 2 ∨ op = 15 ∨ op = 18 ∨ op = 19 ∨ op = 20
  · exact .inl ⟨by unfold arityR; rw [if_pos h1], h1⟩
  · by_cases h2 : 3 ≤ op ∧ op ≤ 14
    · exact .inr ⟨by unfold arityR; rw [if_neg h1, if_pos h2], h2⟩
    · exact absurd (by unfold arityR; rw [if_neg h1, if_neg h2]) h

/-- The reference's Apply. -/
theorem refApply_any (op : Int) (L : List Dat) (v : Value) (w : World) (hv : DatV w v L) (hI : ∀ d ∈ L, InI d) :
    Calls Tryd.prog 7 #[.int .i64 op, v] w (ResT (appR op L) w) := by
  by_cases hm : arityR op = 0
  · unfold appR
    rw [if_pos (.inl hm)]
    exact refApply_none op L v w hv hm
  · by_cases hl : (L.length : Int) = arityR op
    · cases ha : L.all rightD
      · unfold appR
        rw [if_pos (.inr (.inr ha))]
        refine refApply_bad op L v w hv ?_ hl ha
        rcases arity_cases hm with h | h <;> omega
      · rw [appR_eq hm hl ha]
        rcases arity_cases hm with ⟨h1, h2⟩ | ⟨h1, h2⟩
        · match L, hv, hI, hl, ha with
          | [a], hv, hI, hl, ha => exact refApply_one op h2 a v w hv (by simpa using ha) (hI a (by simp))
          | [], _, _, hl, _ => rw [h1] at hl; exact absurd hl (by decide)
          | _ :: _ :: _, _, _, hl, _ => rw [h1] at hl; simp at hl; omega
        · match L, hv, hI, hl, ha with
          | [a, b], hv, hI, hl, ha =>
            simp only [List.all_cons, List.all_nil, Bool.and_true, Bool.and_eq_true] at ha
            exact refApply_two op h2 a b v w hv ha.1 ha.2 (hI a (by simp)) (hI b (by simp))
          | [], _, _, hl, _ => rw [h1] at hl; exact absurd hl (by decide)
          | [_], _, _, hl, _ => rw [h1] at hl; simp at hl
          | _ :: _ :: _ :: _, _, _, hl, _ => rw [h1] at hl; simp at hl; omega
    · unfold appR
      rw [if_pos (.inr (.inl hl))]
      exact refApply_len op L v w hv hm hl

end Go.Proofs.YtimmgiiddckleaaDoor

namespace Go.Proofs.YtimmgiiddckleaaDoor
open Go.RowKit

set_option maxRecDepth 100000 in
set_option maxHeartbeats 8000000 in
theorem apply_none (op : Int) (L : List Dat) (v : Value) (w : World) (hv : DatV w v L) (hm : arityR op = 0) :
    Calls Tryd.prog 6 #[.int .i64 op, v] w (ResPost 0 0 1 w) := by
  obtain ⟨A, c, rfl, _, _⟩ := hv.len
  have HM := Lib.hid (fun w => arity_any op w)
  rw [hm] at HM
  clear hm hv
  go_enter Tryd.func6, Tryd.ntmps6
  go_wp2_with (go_at_call 16; (with_reducible refine (HM.out _).mono ?_); rintro e w' ⟨rfl, rfl⟩)
  refine bodyPost_ret (v := .tuple #[.agg #[.int .i64 0, .int .i64 0, .string noText], .int .i64 1]) ?_ rfl ⟨rfl, ?_⟩
  · simp [results, Tryd.results6, go_sem]
  · exact (Below.refl _ _).alloc (Nat.le_refl _) _

set_option maxRecDepth 100000 in
set_option maxHeartbeats 8000000 in
theorem apply_len (op : Int) (L : List Dat) (v : Value) (w : World) (hv : DatV w v L) (hm : arityR op ≠ 0) (hl : (L.length : Int) ≠ arityR op) :
    Calls Tryd.prog 6 #[.int .i64 op, v] w (ResPost 0 0 1 w) := by
  obtain ⟨A, c, rfl, _, _⟩ := hv.len
  have HM := Lib.hid (fun w => arity_any op w)
  have hm0 : (arityR op == 0) = false := by simpa using hm
  have hm1 : ((L.length : Int) != arityR op) = true := by simpa using hl
  revert HM hm0 hm1
  generalize arityR op = n
  intro HM hm0 hm1
  clear hm hl hv
  go_enter Tryd.func6, Tryd.ntmps6
  go_wp2_with (go_at_call 16; (with_reducible refine (HM.out _).mono ?_); rintro e w' ⟨rfl, rfl⟩)
  refine bodyPost_ret (v := .tuple #[.agg #[.int .i64 0, .int .i64 0, .string noText], .int .i64 1]) ?_ rfl ⟨rfl, ?_⟩
  · simp [results, Tryd.results6, go_sem]
  · exact (Below.refl _ _).alloc (Nat.le_refl _) _

set_option maxRecDepth 100000 in
set_option maxHeartbeats 8000000 in
theorem apply_bad (op : Int) (L : List Dat) (v : Value) (w : World) (hv : DatV w v L) (hT : Tabs w) (h0 : 0 < L.length) (hl : (L.length : Int) = arityR op) (ha : L.all rightD = false) :
    Calls Tryd.prog 6 #[.int .i64 op, v] w (ResPost 0 0 1 w) := by
  obtain ⟨A, c, rfl, hc, hm⟩ := hv.len
  have HM := Lib.hid (fun w => arity_any op w)
  rw [← hl] at HM
  have hm0 : ((L.length : Int) == 0) = false := beq_eq_false_iff_ne.2 (by omega)
  have HV := Lib.hid hv
  have HA := Lib.hid ha
  have HT := Lib.hid hT
  clear hv hl h0 ha hT
  unfold maxLen at hm
  have hb0 := (Below.refl w.heap.size w).alloc (Nat.le_refl _) (.cells #[.int .i64 0, .int .i64 0, .string noText] 24)
  have bR := Blk.new w #[.int .i64 0, .int .i64 0, .string noText] 24
  go_enter Tryd.func6, Tryd.ntmps6
  go_wp2_with (go_at_call 16; (with_reducible refine (HM.out _).mono ?_); rintro e w' ⟨rfl, rfl⟩)
  go_loopw [22] (fun i wr => ∃ n : Nat, i = .int .i64 n ∧ n ≤ L.length ∧ Hid ((L.take n).all rightD = true) ∧ Below w.heap.size w wr ∧ Blk wr w.heap.size #[.int .i64 0, .int .i64 0, .string noText] 24) (fun i _ => L.length - (intOf i).toNat)
  case atStart => exact ⟨0, rfl, Nat.zero_le _, rfl, hb0, bR⟩
  case round =>
    clear hb0 bR
    obtain ⟨n, rfl, hn, HN, hb, bR⟩ := hrel
    by_cases hlt : n < L.length
    · rcases HV.out with ⟨_, h0⟩ | ⟨b, off, c', e, _, hbl, hat, _⟩
      · rw [h0] at hlt; simp at hlt
      · injection e with e1 e2 e3
        subst e1 e3
        obtain ⟨h0, h1, h2⟩ := (hat.block (hb.block b hbl)).dat n hlt
        have HP : Hid (rightD L[n] = true → (L.take (n + 1)).all rightD = true) := fun hp => all_take hlt HN.out hp
        have HE : Hid (L[n] ∈ L) := List.getElem_mem hlt
        clear hat hbl hn HN
        revert HP HE h0 h1 h2
        generalize L[n] = d
        obtain ⟨dk, di, ds⟩ := d
        intro h0 h1 h2 HP HE
        simp only at h0 h1 h2
        have hz := hb.size
        have hn1 : (n : Int) + 1 ≤ 9223372036854775807 := by omega
        have bRo := bR.alloc (.cells #[.int .i64 dk, .int .i64 di, .string ds] 24)
        have hbo := hb.alloc hz (.cells #[.int .i64 dk, .int .i64 di, .string ds] 24)
        have HR := Lib.hid (right_any dk di ds _ (HT.out.below hbo))
        clear HM
        cases hd : rightD ⟨dk, di, ds⟩
        · rw [hd] at HR
          clear hd HP HA HE
          go_wp2_with (go_at_call 17; (with_reducible refine HR.out.mono ?_); rintro e w5 ⟨rfl, hb5⟩; have bR5 := bRo.below hb5; have h5 := hbo.trans (hb5.mono hbo.size); have r0 := bR5.cell 0; have r1 := bR5.cell 1; have r2 := bR5.cell 2; have f0 := bR5.frozen 0; have f1 := bR5.frozen 1; have f2 := bR5.frozen 2; simp only [List.getElem?_toArray, List.getElem?_cons_zero, List.getElem?_cons_succ] at r0 r1 r2)
          refine bodyPost_ret ?_ rfl ⟨rfl, ?_⟩
          · simp [results, Tryd.results6, go_sem, r0, r1, r2]
          · exact (((h5.setCell (by simp; try omega) _).setCell (by simp; try omega) _).setCell (by simp; try omega) _)

        · rw [hd] at HR
          have HQ := Lib.hid (HP.out hd)
          clear hd HP HA HE
          go_wp2_with (go_at_call 17; (with_reducible refine HR.out.mono ?_); rintro e w5 ⟨rfl, hb5⟩; have bR5 := bRo.below hb5; have h5 := hbo.trans (hb5.mono hbo.size))
          refine ⟨⟨n + 1, by go_num, hlt, HQ, h5, bR5⟩, ?_⟩
          simp [intOf]
          go_num
    · have := HN.out
      rw [List.take_of_length_le (by omega), HA.out] at this
      cases this
set_option maxRecDepth 100000 in
set_option maxHeartbeats 8000000 in
theorem apply_not (op : Int) (hop : op = 2) (L : List Dat) (v : Value) (w : World) (hv : DatV w v L) (a : Dat) (hL : L = [a]) (hT : Tabs w) (h0 : 0 < L.length) (hl : (L.length : Int) = arityR op) (ha : L.all rightD = true) (t : Tri) (HP : Hid (∀ w', Calls Tryd.prog 18 #[datVal a] w' (ResT t w'))) :
    Calls Tryd.prog 6 #[.int .i64 op, v] w (ResT t w) := by
  obtain ⟨A, c, rfl, hc, hm⟩ := hv.len
  have HM := Lib.hid (fun w => arity_any op w)
  rw [← hl] at HM
  have hm0 : ((L.length : Int) == 0) = false := beq_eq_false_iff_ne.2 (by omega)
  have HV := Lib.hid hv
  have HA := Lib.hid ha
  have HT := Lib.hid hT
  have HL := Lib.hid hL
  have HOP := Lib.hid hop
  clear hL hop
  clear hv hl h0 ha hT
  unfold maxLen at hm
  have hb0 := (Below.refl w.heap.size w).alloc (Nat.le_refl _) (.cells #[.int .i64 0, .int .i64 0, .string noText] 24)
  have bR := Blk.new w #[.int .i64 0, .int .i64 0, .string noText] 24
  go_enter Tryd.func6, Tryd.ntmps6
  go_wp2_with (go_at_call 16; (with_reducible refine (HM.out _).mono ?_); rintro e w' ⟨rfl, rfl⟩)
  go_loopw [22] (fun i wr => ∃ n : Nat, i = .int .i64 n ∧ n ≤ L.length ∧ Hid ((L.take n).all rightD = true) ∧ Below w.heap.size w wr ∧ Blk wr w.heap.size #[.int .i64 0, .int .i64 0, .string noText] 24) (fun i _ => L.length - (intOf i).toNat)
  case atStart => exact ⟨0, rfl, Nat.zero_le _, rfl, hb0, bR⟩
  case round =>
    clear hb0 bR
    obtain ⟨n, rfl, hn, HN, hb, bR⟩ := hrel
    by_cases hlt : n < L.length
    · rcases HV.out with ⟨_, h0⟩ | ⟨b, off, c', e, _, hbl, hat, _⟩
      · rw [h0] at hlt; simp at hlt
      · injection e with e1 e2 e3
        subst e1 e3
        obtain ⟨h0, h1, h2⟩ := (hat.block (hb.block b hbl)).dat n hlt
        have HP : Hid (rightD L[n] = true → (L.take (n + 1)).all rightD = true) := fun hp => all_take hlt HN.out hp
        have HE : Hid (L[n] ∈ L) := List.getElem_mem hlt
        clear hat hbl hn HN
        revert HP HE h0 h1 h2
        generalize L[n] = d
        obtain ⟨dk, di, ds⟩ := d
        intro h0 h1 h2 HP HE
        simp only at h0 h1 h2
        have hz := hb.size
        have hn1 : (n : Int) + 1 ≤ 9223372036854775807 := by omega
        have bRo := bR.alloc (.cells #[.int .i64 dk, .int .i64 di, .string ds] 24)
        have hbo := hb.alloc hz (.cells #[.int .i64 dk, .int .i64 di, .string ds] 24)
        have HR := Lib.hid (right_any dk di ds _ (HT.out.below hbo))
        clear HM
        cases hd : rightD ⟨dk, di, ds⟩
        · have := List.all_eq_true.1 HA.out _ HE.out
          rw [hd] at this
          cases this
        · rw [hd] at HR
          have HQ := Lib.hid (HP.out hd)
          clear hd HP HA HE
          go_wp2_with (go_at_call 17; (with_reducible refine HR.out.mono ?_); rintro e w5 ⟨rfl, hb5⟩; have bR5 := bRo.below hb5; have h5 := hbo.trans (hb5.mono hbo.size))
          refine ⟨⟨n + 1, by go_num, hlt, HQ, h5, bR5⟩, ?_⟩
          simp [intOf]
          go_num
    · clear HN HA HM
      have hL := HL.out
      rcases HV.out with ⟨_, q0⟩ | ⟨b, off, c', e, _, hbl, hat, _⟩
      · rw [hL] at q0; cases q0
      · injection e with e1 e2 e3
        subst e1 e3
        have hlt0 : 0 < L.length := by rw [hL]; simp
        obtain ⟨x0, x1, x2⟩ := (hat.block (hb.block b hbl)).dat 0 hlt0
        have e0 : L[0] = a := by simp [hL]
        rw [e0] at x0 x1 x2
        simp only [Nat.zero_mul, Nat.add_zero] at x0 x1 x2
        have hl1 : L.length = 1 := by rw [hL]; rfl
        have hc1 : (1 : Int) ≤ c := by omega
        obtain rfl : n = 1 := by omega
        rw [hl1]
        clear hat e0 HV hL hl1 hlt hn hlt0
        have hop := HOP.out
        subst hop
        go_wp2_with (go_at_call 18; (with_reducible refine (HP.out _).mono ?_); rintro e w7 ⟨rfl, hb7⟩; have bR7 := bR.below hb7; have h7 := hb.trans (hb7.mono hb.size); have r0 := bR7.cell 0; have r1 := bR7.cell 1; have r2 := bR7.cell 2; have f0 := bR7.frozen 0; have f1 := bR7.frozen 1; have f2 := bR7.frozen 2; simp only [List.getElem?_toArray, List.getElem?_cons_zero, List.getElem?_cons_succ] at r0 r1 r2)
        refine bodyPost_ret ?_ rfl ⟨rfl, ?_⟩
        · simp [results, Tryd.results6, go_sem, r0, r1, r2]
        · exact (((h7.setCell (by simp; try omega) _).setCell (by simp; try omega) _).setCell (by simp; try omega) _)

set_option maxRecDepth 100000 in
set_option maxHeartbeats 8000000 in
theorem apply_length (op : Int) (hop : op = 18) (L : List Dat) (v : Value) (w : World) (hv : DatV w v L) (a : Dat) (hL : L = [a]) (hT : Tabs w) (h0 : 0 < L.length) (hl : (L.length : Int) = arityR op) (ha : L.all rightD = true) (t : Tri) (HP : Hid (∀ w', Calls Tryd.prog 24 #[datVal a] w' (ResT t w'))) :
    Calls Tryd.prog 6 #[.int .i64 op, v] w (ResT t w) := by
  obtain ⟨A, c, rfl, hc, hm⟩ := hv.len
  have HM := Lib.hid (fun w => arity_any op w)
  rw [← hl] at HM
  have hm0 : ((L.length : Int) == 0) = false := beq_eq_false_iff_ne.2 (by omega)
  have HV := Lib.hid hv
  have HA := Lib.hid ha
  have HT := Lib.hid hT
  have HL := Lib.hid hL
  have HOP := Lib.hid hop
  clear hL hop
  clear hv hl h0 ha hT
  unfold maxLen at hm
  have hb0 := (Below.refl w.heap.size w).alloc (Nat.le_refl _) (.cells #[.int .i64 0, .int .i64 0, .string noText] 24)
  have bR := Blk.new w #[.int .i64 0, .int .i64 0, .string noText] 24
  go_enter Tryd.func6, Tryd.ntmps6
  go_wp2_with (go_at_call 16; (with_reducible refine (HM.out _).mono ?_); rintro e w' ⟨rfl, rfl⟩)
  go_loopw [22] (fun i wr => ∃ n : Nat, i = .int .i64 n ∧ n ≤ L.length ∧ Hid ((L.take n).all rightD = true) ∧ Below w.heap.size w wr ∧ Blk wr w.heap.size #[.int .i64 0, .int .i64 0, .string noText] 24) (fun i _ => L.length - (intOf i).toNat)
  case atStart => exact ⟨0, rfl, Nat.zero_le _, rfl, hb0, bR⟩
  case round =>
    clear hb0 bR
    obtain ⟨n, rfl, hn, HN, hb, bR⟩ := hrel
    by_cases hlt : n < L.length
    · rcases HV.out with ⟨_, h0⟩ | ⟨b, off, c', e, _, hbl, hat, _⟩
      · rw [h0] at hlt; simp at hlt
      · injection e with e1 e2 e3
        subst e1 e3
        obtain ⟨h0, h1, h2⟩ := (hat.block (hb.block b hbl)).dat n hlt
        have HP : Hid (rightD L[n] = true → (L.take (n + 1)).all rightD = true) := fun hp => all_take hlt HN.out hp
        have HE : Hid (L[n] ∈ L) := List.getElem_mem hlt
        clear hat hbl hn HN
        revert HP HE h0 h1 h2
        generalize L[n] = d
        obtain ⟨dk, di, ds⟩ := d
        intro h0 h1 h2 HP HE
        simp only at h0 h1 h2
        have hz := hb.size
        have hn1 : (n : Int) + 1 ≤ 9223372036854775807 := by omega
        have bRo := bR.alloc (.cells #[.int .i64 dk, .int .i64 di, .string ds] 24)
        have hbo := hb.alloc hz (.cells #[.int .i64 dk, .int .i64 di, .string ds] 24)
        have HR := Lib.hid (right_any dk di ds _ (HT.out.below hbo))
        clear HM
        cases hd : rightD ⟨dk, di, ds⟩
        · have := List.all_eq_true.1 HA.out _ HE.out
          rw [hd] at this
          cases this
        · rw [hd] at HR
          have HQ := Lib.hid (HP.out hd)
          clear hd HP HA HE
          go_wp2_with (go_at_call 17; (with_reducible refine HR.out.mono ?_); rintro e w5 ⟨rfl, hb5⟩; have bR5 := bRo.below hb5; have h5 := hbo.trans (hb5.mono hbo.size))
          refine ⟨⟨n + 1, by go_num, hlt, HQ, h5, bR5⟩, ?_⟩
          simp [intOf]
          go_num
    · clear HN HA HM
      have hL := HL.out
      rcases HV.out with ⟨_, q0⟩ | ⟨b, off, c', e, _, hbl, hat, _⟩
      · rw [hL] at q0; cases q0
      · injection e with e1 e2 e3
        subst e1 e3
        have hlt0 : 0 < L.length := by rw [hL]; simp
        obtain ⟨x0, x1, x2⟩ := (hat.block (hb.block b hbl)).dat 0 hlt0
        have e0 : L[0] = a := by simp [hL]
        rw [e0] at x0 x1 x2
        simp only [Nat.zero_mul, Nat.add_zero] at x0 x1 x2
        have hl1 : L.length = 1 := by rw [hL]; rfl
        have hc1 : (1 : Int) ≤ c := by omega
        obtain rfl : n = 1 := by omega
        rw [hl1]
        clear hat e0 HV hL hl1 hlt hn hlt0
        have hop := HOP.out
        subst hop
        go_wp2_with (go_at_call 24; (with_reducible refine (HP.out _).mono ?_); rintro e w7 ⟨rfl, hb7⟩; have bR7 := bR.below hb7; have h7 := hb.trans (hb7.mono hb.size); have r0 := bR7.cell 0; have r1 := bR7.cell 1; have r2 := bR7.cell 2; have f0 := bR7.frozen 0; have f1 := bR7.frozen 1; have f2 := bR7.frozen 2; simp only [List.getElem?_toArray, List.getElem?_cons_zero, List.getElem?_cons_succ] at r0 r1 r2)
        refine bodyPost_ret ?_ rfl ⟨rfl, ?_⟩
        · simp [results, Tryd.results6, go_sem, r0, r1, r2]
        · exact (((h7.setCell (by simp; try omega) _).setCell (by simp; try omega) _).setCell (by simp; try omega) _)

set_option maxRecDepth 100000 in
set_option maxHeartbeats 8000000 in
theorem apply_change (op : Int) (hop : op = 1 ∨ op = 19 ∨ op = 20) (L : List Dat) (v : Value) (w : World) (hv : DatV w v L) (a : Dat) (hL : L = [a]) (hT : Tabs w) (h0 : 0 < L.length) (hl : (L.length : Int) = arityR op) (ha : L.all rightD = true) (t : Tri) (HP : Hid (∀ w', Calls Tryd.prog 22 #[.int .i64 op, datVal a] w' (ResT t w'))) :
    Calls Tryd.prog 6 #[.int .i64 op, v] w (ResT t w) := by
  obtain ⟨A, c, rfl, hc, hm⟩ := hv.len
  have HM := Lib.hid (fun w => arity_any op w)
  rw [← hl] at HM
  have hm0 : ((L.length : Int) == 0) = false := beq_eq_false_iff_ne.2 (by omega)
  have HV := Lib.hid hv
  have HA := Lib.hid ha
  have HT := Lib.hid hT
  have HL := Lib.hid hL
  have HOP := Lib.hid hop
  clear hL hop
  clear hv hl h0 ha hT
  unfold maxLen at hm
  have hb0 := (Below.refl w.heap.size w).alloc (Nat.le_refl _) (.cells #[.int .i64 0, .int .i64 0, .string noText] 24)
  have bR := Blk.new w #[.int .i64 0, .int .i64 0, .string noText] 24
  go_enter Tryd.func6, Tryd.ntmps6
  go_wp2_with (go_at_call 16; (with_reducible refine (HM.out _).mono ?_); rintro e w' ⟨rfl, rfl⟩)
  go_loopw [22] (fun i wr => ∃ n : Nat, i = .int .i64 n ∧ n ≤ L.length ∧ Hid ((L.take n).all rightD = true) ∧ Below w.heap.size w wr ∧ Blk wr w.heap.size #[.int .i64 0, .int .i64 0, .string noText] 24) (fun i _ => L.length - (intOf i).toNat)
  case atStart => exact ⟨0, rfl, Nat.zero_le _, rfl, hb0, bR⟩
  case round =>
    clear hb0 bR
    obtain ⟨n, rfl, hn, HN, hb, bR⟩ := hrel
    by_cases hlt : n < L.length
    · rcases HV.out with ⟨_, h0⟩ | ⟨b, off, c', e, _, hbl, hat, _⟩
      · rw [h0] at hlt; simp at hlt
      · injection e with e1 e2 e3
        subst e1 e3
        obtain ⟨h0, h1, h2⟩ := (hat.block (hb.block b hbl)).dat n hlt
        have HP : Hid (rightD L[n] = true → (L.take (n + 1)).all rightD = true) := fun hp => all_take hlt HN.out hp
        have HE : Hid (L[n] ∈ L) := List.getElem_mem hlt
        clear hat hbl hn HN
        revert HP HE h0 h1 h2
        generalize L[n] = d
        obtain ⟨dk, di, ds⟩ := d
        intro h0 h1 h2 HP HE
        simp only at h0 h1 h2
        have hz := hb.size
        have hn1 : (n : Int) + 1 ≤ 9223372036854775807 := by omega
        have bRo := bR.alloc (.cells #[.int .i64 dk, .int .i64 di, .string ds] 24)
        have hbo := hb.alloc hz (.cells #[.int .i64 dk, .int .i64 di, .string ds] 24)
        have HR := Lib.hid (right_any dk di ds _ (HT.out.below hbo))
        clear HM
        cases hd : rightD ⟨dk, di, ds⟩
        · have := List.all_eq_true.1 HA.out _ HE.out
          rw [hd] at this
          cases this
        · rw [hd] at HR
          have HQ := Lib.hid (HP.out hd)
          clear hd HP HA HE
          go_wp2_with (go_at_call 17; (with_reducible refine HR.out.mono ?_); rintro e w5 ⟨rfl, hb5⟩; have bR5 := bRo.below hb5; have h5 := hbo.trans (hb5.mono hbo.size))
          refine ⟨⟨n + 1, by go_num, hlt, HQ, h5, bR5⟩, ?_⟩
          simp [intOf]
          go_num
    · clear HN HA HM
      have hL := HL.out
      rcases HV.out with ⟨_, q0⟩ | ⟨b, off, c', e, _, hbl, hat, _⟩
      · rw [hL] at q0; cases q0
      · injection e with e1 e2 e3
        subst e1 e3
        have hlt0 : 0 < L.length := by rw [hL]; simp
        obtain ⟨x0, x1, x2⟩ := (hat.block (hb.block b hbl)).dat 0 hlt0
        have e0 : L[0] = a := by simp [hL]
        rw [e0] at x0 x1 x2
        simp only [Nat.zero_mul, Nat.add_zero] at x0 x1 x2
        have hl1 : L.length = 1 := by rw [hL]; rfl
        have hc1 : (1 : Int) ≤ c := by omega
        obtain rfl : n = 1 := by omega
        rw [hl1]
        clear hat e0 HV hL hl1 hlt hn hlt0
        have hop := HOP.out
        rcases hop with rfl | rfl | rfl
        all_goals
          go_wp2_with (go_at_call 22; (with_reducible refine (HP.out _).mono ?_); rintro e w7 ⟨rfl, hb7⟩; have bR7 := bR.below hb7; have h7 := hb.trans (hb7.mono hb.size); have r0 := bR7.cell 0; have r1 := bR7.cell 1; have r2 := bR7.cell 2; have f0 := bR7.frozen 0; have f1 := bR7.frozen 1; have f2 := bR7.frozen 2; simp only [List.getElem?_toArray, List.getElem?_cons_zero, List.getElem?_cons_succ] at r0 r1 r2)
          refine bodyPost_ret ?_ rfl ⟨rfl, ?_⟩
          · simp [results, Tryd.results6, go_sem, r0, r1, r2]
          · exact (((h7.setCell (by simp; try omega) _).setCell (by simp; try omega) _).setCell (by simp; try omega) _)

set_option maxRecDepth 100000 in
set_option maxHeartbeats 8000000 in
theorem apply_isnull (op : Int) (hop : op = 15) (L : List Dat) (v : Value) (w : World) (hv : DatV w v L) (a : Dat) (hL : L = [a]) (hT : Tabs w) (h0 : 0 < L.length) (hl : (L.length : Int) = arityR op) (ha : L.all rightD = true) :
    Calls Tryd.prog 6 #[.int .i64 op, v] w (ResT (1, bitOf (a.k == 0), 0) w) := by
  obtain ⟨A, c, rfl, hc, hm⟩ := hv.len
  have HM := Lib.hid (fun w => arity_any op w)
  rw [← hl] at HM
  have hm0 : ((L.length : Int) == 0) = false := beq_eq_false_iff_ne.2 (by omega)
  have HV := Lib.hid hv
  have HA := Lib.hid ha
  have HT := Lib.hid hT
  have HL := Lib.hid hL
  have HOP := Lib.hid hop
  clear hL hop
  clear hv hl h0 ha hT
  unfold maxLen at hm
  have hb0 := (Below.refl w.heap.size w).alloc (Nat.le_refl _) (.cells #[.int .i64 0, .int .i64 0, .string noText] 24)
  have bR := Blk.new w #[.int .i64 0, .int .i64 0, .string noText] 24
  go_enter Tryd.func6, Tryd.ntmps6
  go_wp2_with (go_at_call 16; (with_reducible refine (HM.out _).mono ?_); rintro e w' ⟨rfl, rfl⟩)
  go_loopw [22] (fun i wr => ∃ n : Nat, i = .int .i64 n ∧ n ≤ L.length ∧ Hid ((L.take n).all rightD = true) ∧ Below w.heap.size w wr ∧ Blk wr w.heap.size #[.int .i64 0, .int .i64 0, .string noText] 24) (fun i _ => L.length - (intOf i).toNat)
  case atStart => exact ⟨0, rfl, Nat.zero_le _, rfl, hb0, bR⟩
  case round =>
    clear hb0 bR
    obtain ⟨n, rfl, hn, HN, hb, bR⟩ := hrel
    by_cases hlt : n < L.length
    · rcases HV.out with ⟨_, h0⟩ | ⟨b, off, c', e, _, hbl, hat, _⟩
      · rw [h0] at hlt; simp at hlt
      · injection e with e1 e2 e3
        subst e1 e3
        obtain ⟨h0, h1, h2⟩ := (hat.block (hb.block b hbl)).dat n hlt
        have HP : Hid (rightD L[n] = true → (L.take (n + 1)).all rightD = true) := fun hp => all_take hlt HN.out hp
        have HE : Hid (L[n] ∈ L) := List.getElem_mem hlt
        clear hat hbl hn HN
        revert HP HE h0 h1 h2
        generalize L[n] = d
        obtain ⟨dk, di, ds⟩ := d
        intro h0 h1 h2 HP HE
        simp only at h0 h1 h2
        have hz := hb.size
        have hn1 : (n : Int) + 1 ≤ 9223372036854775807 := by omega
        have bRo := bR.alloc (.cells #[.int .i64 dk, .int .i64 di, .string ds] 24)
        have hbo := hb.alloc hz (.cells #[.int .i64 dk, .int .i64 di, .string ds] 24)
        have HR := Lib.hid (right_any dk di ds _ (HT.out.below hbo))
        clear HM
        cases hd : rightD ⟨dk, di, ds⟩
        · have := List.all_eq_true.1 HA.out _ HE.out
          rw [hd] at this
          cases this
        · rw [hd] at HR
          have HQ := Lib.hid (HP.out hd)
          clear hd HP HA HE
          go_wp2_with (go_at_call 17; (with_reducible refine HR.out.mono ?_); rintro e w5 ⟨rfl, hb5⟩; have bR5 := bRo.below hb5; have h5 := hbo.trans (hb5.mono hbo.size))
          refine ⟨⟨n + 1, by go_num, hlt, HQ, h5, bR5⟩, ?_⟩
          simp [intOf]
          go_num
    · clear HN HA HM
      have hL := HL.out
      rcases HV.out with ⟨_, q0⟩ | ⟨b, off, c', e, _, hbl, hat, _⟩
      · rw [hL] at q0; cases q0
      · injection e with e1 e2 e3
        subst e1 e3
        have hlt0 : 0 < L.length := by rw [hL]; simp
        obtain ⟨x0, x1, x2⟩ := (hat.block (hb.block b hbl)).dat 0 hlt0
        have e0 : L[0] = a := by simp [hL]
        rw [e0] at x0 x1 x2
        simp only [Nat.zero_mul, Nat.add_zero] at x0 x1 x2
        have hl1 : L.length = 1 := by rw [hL]; rfl
        have hc1 : (1 : Int) ≤ c := by omega
        obtain rfl : n = 1 := by omega
        rw [hl1]
        clear hat e0 HV hL hl1 hlt hn hlt0
        have hop := HOP.out
        subst hop
        have hz := hb.size
        have bR7 := (bR.alloc (.cells #[.int .i64 a.k, .int .i64 a.i, .string a.s] 24)).alloc (.cells #[.int .i64 1, .int .i64 (bitOf (a.k == 0)), .string noText] 24)
        have h7 := (hb.alloc hz (.cells #[.int .i64 a.k, .int .i64 a.i, .string a.s] 24)).alloc (by simp; omega) (.cells #[.int .i64 1, .int .i64 (bitOf (a.k == 0)), .string noText] 24)
        have r0 := bR7.cell 0
        have r1 := bR7.cell 1
        have r2 := bR7.cell 2
        have f0 := bR7.frozen 0
        have f1 := bR7.frozen 1
        have f2 := bR7.frozen 2
        simp only [List.getElem?_toArray, List.getElem?_cons_zero, List.getElem?_cons_succ] at r0 r1 r2
        go_wp2_with (first
          | (go_at_call 21; refine (isNull_any a.k a.i a.s _).mono ?_; rintro e w' ⟨rfl, rfl⟩)
          | (go_at_call 20; refine (truth_any (a.k == 0) _).mono ?_; rintro e w' ⟨rfl, rfl⟩))
        refine bodyPost_ret ?_ rfl ⟨rfl, ?_⟩
        · simp [results, Tryd.results6, go_sem, r0, r1, r2]
        · exact (((h7.setCell (by simp; try omega) _).setCell (by simp; try omega) _).setCell (by simp; try omega) _)

set_option maxRecDepth 100000 in
set_option maxHeartbeats 8000000 in
theorem apply_and (op : Int) (hop : op = 13) (L : List Dat) (v : Value) (w : World) (hv : DatV w v L) (a b : Dat) (hL : L = [a, b]) (hT : Tabs w) (h0 : 0 < L.length) (hl : (L.length : Int) = arityR op) (ha : L.all rightD = true) (t : Tri) (HP : Hid (∀ w', Calls Tryd.prog 19 #[datVal a, datVal b, .int .i64 0] w' (ResT t w'))) :
    Calls Tryd.prog 6 #[.int .i64 op, v] w (ResT t w) := by
  obtain ⟨A, c, rfl, hc, hm⟩ := hv.len
  have HM := Lib.hid (fun w => arity_any op w)
  rw [← hl] at HM
  have hm0 : ((L.length : Int) == 0) = false := beq_eq_false_iff_ne.2 (by omega)
  have HV := Lib.hid hv
  have HA := Lib.hid ha
  have HT := Lib.hid hT
  have HL := Lib.hid hL
  have HOP := Lib.hid hop
  clear hL hop
  clear hv hl h0 ha hT
  unfold maxLen at hm
  have hb0 := (Below.refl w.heap.size w).alloc (Nat.le_refl _) (.cells #[.int .i64 0, .int .i64 0, .string noText] 24)
  have bR := Blk.new w #[.int .i64 0, .int .i64 0, .string noText] 24
  go_enter Tryd.func6, Tryd.ntmps6
  go_wp2_with (go_at_call 16; (with_reducible refine (HM.out _).mono ?_); rintro e w' ⟨rfl, rfl⟩)
  go_loopw [22] (fun i wr => ∃ n : Nat, i = .int .i64 n ∧ n ≤ L.length ∧ Hid ((L.take n).all rightD = true) ∧ Below w.heap.size w wr ∧ Blk wr w.heap.size #[.int .i64 0, .int .i64 0, .string noText] 24) (fun i _ => L.length - (intOf i).toNat)
  case atStart => exact ⟨0, rfl, Nat.zero_le _, rfl, hb0, bR⟩
  case round =>
    clear hb0 bR
    obtain ⟨n, rfl, hn, HN, hb, bR⟩ := hrel
    by_cases hlt : n < L.length
    · rcases HV.out with ⟨_, h0⟩ | ⟨b, off, c', e, _, hbl, hat, _⟩
      · rw [h0] at hlt; simp at hlt
      · injection e with e1 e2 e3
        subst e1 e3
        obtain ⟨h0, h1, h2⟩ := (hat.block (hb.block b hbl)).dat n hlt
        have HP : Hid (rightD L[n] = true → (L.take (n + 1)).all rightD = true) := fun hp => all_take hlt HN.out hp
        have HE : Hid (L[n] ∈ L) := List.getElem_mem hlt
        clear hat hbl hn HN
        revert HP HE h0 h1 h2
        generalize L[n] = d
        obtain ⟨dk, di, ds⟩ := d
        intro h0 h1 h2 HP HE
        simp only at h0 h1 h2
        have hz := hb.size
        have hn1 : (n : Int) + 1 ≤ 9223372036854775807 := by omega
        have bRo := bR.alloc (.cells #[.int .i64 dk, .int .i64 di, .string ds] 24)
        have hbo := hb.alloc hz (.cells #[.int .i64 dk, .int .i64 di, .string ds] 24)
        have HR := Lib.hid (right_any dk di ds _ (HT.out.below hbo))
        clear HM
        cases hd : rightD ⟨dk, di, ds⟩
        · have := List.all_eq_true.1 HA.out _ HE.out
          rw [hd] at this
          cases this
        · rw [hd] at HR
          have HQ := Lib.hid (HP.out hd)
          clear hd HP HA HE
          go_wp2_with (go_at_call 17; (with_reducible refine HR.out.mono ?_); rintro e w5 ⟨rfl, hb5⟩; have bR5 := bRo.below hb5; have h5 := hbo.trans (hb5.mono hbo.size))
          refine ⟨⟨n + 1, by go_num, hlt, HQ, h5, bR5⟩, ?_⟩
          simp [intOf]
          go_num
    · clear HN HA HM
      have hL := HL.out
      rcases HV.out with ⟨_, q0⟩ | ⟨b0, off, c', e, _, hbl, hat, _⟩
      · rw [hL] at q0; cases q0
      · injection e with e1 e2 e3
        subst e1 e3
        have hlt0 : 0 < L.length := by rw [hL]; simp
        have hlt1 : 1 < L.length := by rw [hL]; simp
        obtain ⟨x0, x1, x2⟩ := (hat.block (hb.block b0 hbl)).dat 0 hlt0
        obtain ⟨x3, x4, x5⟩ := (hat.block (hb.block b0 hbl)).dat 1 hlt1
        have e0 : L[0] = a := by simp [hL]
        have e1 : L[1] = b := by simp [hL]
        rw [e0] at x0 x1 x2
        rw [e1] at x3 x4 x5
        simp only [Nat.zero_mul, Nat.one_mul, Nat.add_zero] at x0 x1 x2 x3 x4 x5
        have hl1 : L.length = 2 := by rw [hL]; rfl
        have hc1 : (2 : Int) ≤ c := by omega
        obtain rfl : n = 2 := by omega
        have hbw : b0 ≠ w.heap.size := by omega
        rw [hl1]
        clear hat e0 e1 HV hL hl1 hlt hn hlt0 hlt1
        have hop := HOP.out
        subst hop
        go_wp2_with fail
        go_region_held3 (fun w' => w'.cell? ⟨b0, off, none⟩ = some (.int .i64 a.k) ∧ w'.cell? ⟨b0, off + 1, none⟩ = some (.int .i64 a.i) ∧ w'.cell? ⟨b0, off + 2, none⟩ = some (.string a.s) ∧ w'.cell? ⟨b0, off + 3, none⟩ = some (.int .i64 b.k) ∧ w'.cell? ⟨b0, off + 3 + 1, none⟩ = some (.int .i64 b.i) ∧ w'.cell? ⟨b0, off + 3 + 2, none⟩ = some (.string b.s)) (first | exact ⟨x0, x1, x2, x3, x4, x5⟩ | exact ⟨y0, y1, y2, y3, y4, y5⟩ | exact ⟨cell_set3 hbw y0, cell_set3 hbw y1, cell_set3 hbw y2, cell_set3 hbw y3, cell_set3 hbw y4, cell_set3 hbw y5⟩) ((first
          | (go_at_call 19; (with_reducible refine (HP.out _).mono ?_); rintro e w7 ⟨rfl, hb7⟩; have bR7 := bR.drew.below hb7; have h7 := hb.drew.trans (hb7.mono hb.drew.size); have hlw := World.block_lt_of_cell? _ _ x0; have y0 := (hb7.cell (p := ⟨b0, off, none⟩) hlw).trans x0; have y1 := (hb7.cell (p := ⟨b0, off + 1, none⟩) hlw).trans x1; have y2 := (hb7.cell (p := ⟨b0, off + 2, none⟩) hlw).trans x2; have y3 := (hb7.cell (p := ⟨b0, off + 3, none⟩) hlw).trans x3; have y4 := (hb7.cell (p := ⟨b0, off + 3 + 1, none⟩) hlw).trans x4; have y5 := (hb7.cell (p := ⟨b0, off + 3 + 2, none⟩) hlw).trans x5; have r0 := bR7.cell 0; have r1 := bR7.cell 1; have r2 := bR7.cell 2; have f0 := bR7.frozen 0; have f1 := bR7.frozen 1; have f2 := bR7.frozen 2; simp only [List.getElem?_toArray, List.getElem?_cons_zero, List.getElem?_cons_succ] at r0 r1 r2)))
        go_step
        go_step
        go_wp2_with fail
        refine bodyPost_ret ?_ rfl ⟨rfl, ?_⟩
        · simp [results, Tryd.results6, go_sem, r0, r1, r2]
        · exact (((h7.setCell (by simp; try omega) _).setCell (by simp; try omega) _).setCell (by simp; try omega) _)

set_option maxRecDepth 100000 in
set_option maxHeartbeats 8000000 in
theorem apply_or (op : Int) (hop : op = 14) (L : List Dat) (v : Value) (w : World) (hv : DatV w v L) (a b : Dat) (hL : L = [a, b]) (hT : Tabs w) (h0 : 0 < L.length) (hl : (L.length : Int) = arityR op) (ha : L.all rightD = true) (t : Tri) (HP : Hid (∀ w', Calls Tryd.prog 19 #[datVal a, datVal b, .int .i64 1] w' (ResT t w'))) :
    Calls Tryd.prog 6 #[.int .i64 op, v] w (ResT t w) := by
  obtain ⟨A, c, rfl, hc, hm⟩ := hv.len
  have HM := Lib.hid (fun w => arity_any op w)
  rw [← hl] at HM
  have hm0 : ((L.length : Int) == 0) = false := beq_eq_false_iff_ne.2 (by omega)
  have HV := Lib.hid hv
  have HA := Lib.hid ha
  have HT := Lib.hid hT
  have HL := Lib.hid hL
  have HOP := Lib.hid hop
  clear hL hop
  clear hv hl h0 ha hT
  unfold maxLen at hm
  have hb0 := (Below.refl w.heap.size w).alloc (Nat.le_refl _) (.cells #[.int .i64 0, .int .i64 0, .string noText] 24)
  have bR := Blk.new w #[.int .i64 0, .int .i64 0, .string noText] 24
  go_enter Tryd.func6, Tryd.ntmps6
  go_wp2_with (go_at_call 16; (with_reducible refine (HM.out _).mono ?_); rintro e w' ⟨rfl, rfl⟩)
  go_loopw [22] (fun i wr => ∃ n : Nat, i = .int .i64 n ∧ n ≤ L.length ∧ Hid ((L.take n).all rightD = true) ∧ Below w.heap.size w wr ∧ Blk wr w.heap.size #[.int .i64 0, .int .i64 0, .string noText] 24) (fun i _ => L.length - (intOf i).toNat)
  case atStart => exact ⟨0, rfl, Nat.zero_le _, rfl, hb0, bR⟩
  case round =>
    clear hb0 bR
    obtain ⟨n, rfl, hn, HN, hb, bR⟩ := hrel
    by_cases hlt : n < L.length
    · rcases HV.out with ⟨_, h0⟩ | ⟨b, off, c', e, _, hbl, hat, _⟩
      · rw [h0] at hlt; simp at hlt
      · injection e with e1 e2 e3
        subst e1 e3
        obtain ⟨h0, h1, h2⟩ := (hat.block (hb.block b hbl)).dat n hlt
        have HP : Hid (rightD L[n] = true → (L.take (n + 1)).all rightD = true) := fun hp => all_take hlt HN.out hp
        have HE : Hid (L[n] ∈ L) := List.getElem_mem hlt
        clear hat hbl hn HN
        revert HP HE h0 h1 h2
        generalize L[n] = d
        obtain ⟨dk, di, ds⟩ := d
        intro h0 h1 h2 HP HE
        simp only at h0 h1 h2
        have hz := hb.size
        have hn1 : (n : Int) + 1 ≤ 9223372036854775807 := by omega
        have bRo := bR.alloc (.cells #[.int .i64 dk, .int .i64 di, .string ds] 24)
        have hbo := hb.alloc hz (.cells #[.int .i64 dk, .int .i64 di, .string ds] 24)
        have HR := Lib.hid (right_any dk di ds _ (HT.out.below hbo))
        clear HM
        cases hd : rightD ⟨dk, di, ds⟩
        · have := List.all_eq_true.1 HA.out _ HE.out
          rw [hd] at this
          cases this
        · rw [hd] at HR
          have HQ := Lib.hid (HP.out hd)
          clear hd HP HA HE
          go_wp2_with (go_at_call 17; (with_reducible refine HR.out.mono ?_); rintro e w5 ⟨rfl, hb5⟩; have bR5 := bRo.below hb5; have h5 := hbo.trans (hb5.mono hbo.size))
          refine ⟨⟨n + 1, by go_num, hlt, HQ, h5, bR5⟩, ?_⟩
          simp [intOf]
          go_num
    · clear HN HA HM
      have hL := HL.out
      rcases HV.out with ⟨_, q0⟩ | ⟨b0, off, c', e, _, hbl, hat, _⟩
      · rw [hL] at q0; cases q0
      · injection e with e1 e2 e3
        subst e1 e3
        have hlt0 : 0 < L.length := by rw [hL]; simp
        have hlt1 : 1 < L.length := by rw [hL]; simp
        obtain ⟨x0, x1, x2⟩ := (hat.block (hb.block b0 hbl)).dat 0 hlt0
        obtain ⟨x3, x4, x5⟩ := (hat.block (hb.block b0 hbl)).dat 1 hlt1
        have e0 : L[0] = a := by simp [hL]
        have e1 : L[1] = b := by simp [hL]
        rw [e0] at x0 x1 x2
        rw [e1] at x3 x4 x5
        simp only [Nat.zero_mul, Nat.one_mul, Nat.add_zero] at x0 x1 x2 x3 x4 x5
        have hl1 : L.length = 2 := by rw [hL]; rfl
        have hc1 : (2 : Int) ≤ c := by omega
        obtain rfl : n = 2 := by omega
        have hbw : b0 ≠ w.heap.size := by omega
        rw [hl1]
        clear hat e0 e1 HV hL hl1 hlt hn hlt0 hlt1
        have hop := HOP.out
        subst hop
        go_wp2_with fail
        go_region_held3 (fun w' => w'.cell? ⟨b0, off, none⟩ = some (.int .i64 a.k) ∧ w'.cell? ⟨b0, off + 1, none⟩ = some (.int .i64 a.i) ∧ w'.cell? ⟨b0, off + 2, none⟩ = some (.string a.s) ∧ w'.cell? ⟨b0, off + 3, none⟩ = some (.int .i64 b.k) ∧ w'.cell? ⟨b0, off + 3 + 1, none⟩ = some (.int .i64 b.i) ∧ w'.cell? ⟨b0, off + 3 + 2, none⟩ = some (.string b.s)) (first | exact ⟨x0, x1, x2, x3, x4, x5⟩ | exact ⟨y0, y1, y2, y3, y4, y5⟩ | exact ⟨cell_set3 hbw y0, cell_set3 hbw y1, cell_set3 hbw y2, cell_set3 hbw y3, cell_set3 hbw y4, cell_set3 hbw y5⟩) ((first
          | (go_at_call 19; (with_reducible refine (HP.out _).mono ?_); rintro e w7 ⟨rfl, hb7⟩; have bR7 := bR.drew.below hb7; have h7 := hb.drew.trans (hb7.mono hb.drew.size); have hlw := World.block_lt_of_cell? _ _ x0; have y0 := (hb7.cell (p := ⟨b0, off, none⟩) hlw).trans x0; have y1 := (hb7.cell (p := ⟨b0, off + 1, none⟩) hlw).trans x1; have y2 := (hb7.cell (p := ⟨b0, off + 2, none⟩) hlw).trans x2; have y3 := (hb7.cell (p := ⟨b0, off + 3, none⟩) hlw).trans x3; have y4 := (hb7.cell (p := ⟨b0, off + 3 + 1, none⟩) hlw).trans x4; have y5 := (hb7.cell (p := ⟨b0, off + 3 + 2, none⟩) hlw).trans x5; have r0 := bR7.cell 0; have r1 := bR7.cell 1; have r2 := bR7.cell 2; have f0 := bR7.frozen 0; have f1 := bR7.frozen 1; have f2 := bR7.frozen 2; simp only [List.getElem?_toArray, List.getElem?_cons_zero, List.getElem?_cons_succ] at r0 r1 r2)))
        go_step
        go_step
        go_wp2_with fail
        refine bodyPost_ret ?_ rfl ⟨rfl, ?_⟩
        · simp [results, Tryd.results6, go_sem, r0, r1, r2]
        · exact (((h7.setCell (by simp; try omega) _).setCell (by simp; try omega) _).setCell (by simp; try omega) _)

set_option maxRecDepth 100000 in
set_option maxHeartbeats 8000000 in
theorem apply_reckon (op : Int) (hop : op = 3 ∨ op = 4 ∨ op = 5 ∨ op = 6) (L : List Dat) (v : Value) (w : World) (hv : DatV w v L) (a b : Dat) (hL : L = [a, b]) (hT : Tabs w) (h0 : 0 < L.length) (hl : (L.length : Int) = arityR op) (ha : L.all rightD = true) (t : Tri) (HP : Hid (∀ w', Calls Tryd.prog 23 #[.int .i64 op, datVal a, datVal b] w' (ResT t w'))) :
    Calls Tryd.prog 6 #[.int .i64 op, v] w (ResT t w) := by
  obtain ⟨A, c, rfl, hc, hm⟩ := hv.len
  have HM := Lib.hid (fun w => arity_any op w)
  rw [← hl] at HM
  have hm0 : ((L.length : Int) == 0) = false := beq_eq_false_iff_ne.2 (by omega)
  have HV := Lib.hid hv
  have HA := Lib.hid ha
  have HT := Lib.hid hT
  have HL := Lib.hid hL
  have HOP := Lib.hid hop
  clear hL hop
  clear hv hl h0 ha hT
  unfold maxLen at hm
  have hb0 := (Below.refl w.heap.size w).alloc (Nat.le_refl _) (.cells #[.int .i64 0, .int .i64 0, .string noText] 24)
  have bR := Blk.new w #[.int .i64 0, .int .i64 0, .string noText] 24
  go_enter Tryd.func6, Tryd.ntmps6
  go_wp2_with (go_at_call 16; (with_reducible refine (HM.out _).mono ?_); rintro e w' ⟨rfl, rfl⟩)
  go_loopw [22] (fun i wr => ∃ n : Nat, i = .int .i64 n ∧ n ≤ L.length ∧ Hid ((L.take n).all rightD = true) ∧ Below w.heap.size w wr ∧ Blk wr w.heap.size #[.int .i64 0, .int .i64 0, .string noText] 24) (fun i _ => L.length - (intOf i).toNat)
  case atStart => exact ⟨0, rfl, Nat.zero_le _, rfl, hb0, bR⟩
  case round =>
    clear hb0 bR
    obtain ⟨n, rfl, hn, HN, hb, bR⟩ := hrel
    by_cases hlt : n < L.length
    · rcases HV.out with ⟨_, h0⟩ | ⟨b, off, c', e, _, hbl, hat, _⟩
      · rw [h0] at hlt; simp at hlt
      · injection e with e1 e2 e3
        subst e1 e3
        obtain ⟨h0, h1, h2⟩ := (hat.block (hb.block b hbl)).dat n hlt
        have HP : Hid (rightD L[n] = true → (L.take (n + 1)).all rightD = true) := fun hp => all_take hlt HN.out hp
        have HE : Hid (L[n] ∈ L) := List.getElem_mem hlt
        clear hat hbl hn HN
        revert HP HE h0 h1 h2
        generalize L[n] = d
        obtain ⟨dk, di, ds⟩ := d
        intro h0 h1 h2 HP HE
        simp only at h0 h1 h2
        have hz := hb.size
        have hn1 : (n : Int) + 1 ≤ 9223372036854775807 := by omega
        have bRo := bR.alloc (.cells #[.int .i64 dk, .int .i64 di, .string ds] 24)
        have hbo := hb.alloc hz (.cells #[.int .i64 dk, .int .i64 di, .string ds] 24)
        have HR := Lib.hid (right_any dk di ds _ (HT.out.below hbo))
        clear HM
        cases hd : rightD ⟨dk, di, ds⟩
        · have := List.all_eq_true.1 HA.out _ HE.out
          rw [hd] at this
          cases this
        · rw [hd] at HR
          have HQ := Lib.hid (HP.out hd)
          clear hd HP HA HE
          go_wp2_with (go_at_call 17; (with_reducible refine HR.out.mono ?_); rintro e w5 ⟨rfl, hb5⟩; have bR5 := bRo.below hb5; have h5 := hbo.trans (hb5.mono hbo.size))
          refine ⟨⟨n + 1, by go_num, hlt, HQ, h5, bR5⟩, ?_⟩
          simp [intOf]
          go_num
    · clear HN HA HM
      have hL := HL.out
      rcases HV.out with ⟨_, q0⟩ | ⟨b0, off, c', e, _, hbl, hat, _⟩
      · rw [hL] at q0; cases q0
      · injection e with e1 e2 e3
        subst e1 e3
        have hlt0 : 0 < L.length := by rw [hL]; simp
        have hlt1 : 1 < L.length := by rw [hL]; simp
        obtain ⟨x0, x1, x2⟩ := (hat.block (hb.block b0 hbl)).dat 0 hlt0
        obtain ⟨x3, x4, x5⟩ := (hat.block (hb.block b0 hbl)).dat 1 hlt1
        have e0 : L[0] = a := by simp [hL]
        have e1 : L[1] = b := by simp [hL]
        rw [e0] at x0 x1 x2
        rw [e1] at x3 x4 x5
        simp only [Nat.zero_mul, Nat.one_mul, Nat.add_zero] at x0 x1 x2 x3 x4 x5
        have hl1 : L.length = 2 := by rw [hL]; rfl
        have hc1 : (2 : Int) ≤ c := by omega
        obtain rfl : n = 2 := by omega
        have hbw : b0 ≠ w.heap.size := by omega
        rw [hl1]
        clear hat e0 e1 HV hL hl1 hlt hn hlt0 hlt1
        have hop := HOP.out
        rcases hop with rfl | rfl | rfl | rfl
        all_goals
          go_wp2_with fail
          go_region_held3 (fun w' => w'.cell? ⟨b0, off, none⟩ = some (.int .i64 a.k) ∧ w'.cell? ⟨b0, off + 1, none⟩ = some (.int .i64 a.i) ∧ w'.cell? ⟨b0, off + 2, none⟩ = some (.string a.s) ∧ w'.cell? ⟨b0, off + 3, none⟩ = some (.int .i64 b.k) ∧ w'.cell? ⟨b0, off + 3 + 1, none⟩ = some (.int .i64 b.i) ∧ w'.cell? ⟨b0, off + 3 + 2, none⟩ = some (.string b.s)) (first | exact ⟨x0, x1, x2, x3, x4, x5⟩ | exact ⟨y0, y1, y2, y3, y4, y5⟩ | exact ⟨cell_set3 hbw y0, cell_set3 hbw y1, cell_set3 hbw y2, cell_set3 hbw y3, cell_set3 hbw y4, cell_set3 hbw y5⟩) ((first
            | (go_at_call 23; (with_reducible refine (HP.out _).mono ?_); rintro e w7 ⟨rfl, hb7⟩; have bR7 := bR.drew.below hb7; have h7 := hb.drew.trans (hb7.mono hb.drew.size); have hlw := World.block_lt_of_cell? _ _ x0; have y0 := (hb7.cell (p := ⟨b0, off, none⟩) hlw).trans x0; have y1 := (hb7.cell (p := ⟨b0, off + 1, none⟩) hlw).trans x1; have y2 := (hb7.cell (p := ⟨b0, off + 2, none⟩) hlw).trans x2; have y3 := (hb7.cell (p := ⟨b0, off + 3, none⟩) hlw).trans x3; have y4 := (hb7.cell (p := ⟨b0, off + 3 + 1, none⟩) hlw).trans x4; have y5 := (hb7.cell (p := ⟨b0, off + 3 + 2, none⟩) hlw).trans x5; have r0 := bR7.cell 0; have r1 := bR7.cell 1; have r2 := bR7.cell 2; have f0 := bR7.frozen 0; have f1 := bR7.frozen 1; have f2 := bR7.frozen 2; simp only [List.getElem?_toArray, List.getElem?_cons_zero, List.getElem?_cons_succ] at r0 r1 r2)))
          go_step
          go_step
          go_wp2_with fail
          refine bodyPost_ret ?_ rfl ⟨rfl, ?_⟩
          · simp [results, Tryd.results6, go_sem, r0, r1, r2]
          · exact (((h7.setCell (by simp; try omega) _).setCell (by simp; try omega) _).setCell (by simp; try omega) _)

set_option maxRecDepth 100000 in
set_option maxHeartbeats 8000000 in
theorem apply_relate (op : Int) (hop : op = 7 ∨ op = 8 ∨ op = 9 ∨ op = 10 ∨ op = 11 ∨ op = 12) (L : List Dat) (v : Value) (w : World) (hv : DatV w v L) (a b : Dat) (hL : L = [a, b]) (hT : Tabs w) (h0 : 0 < L.length) (hl : (L.length : Int) = arityR op) (ha : L.all rightD = true) (t : Tri) (HP : Hid (∀ w', Calls Tryd.prog 25 #[.int .i64 op, datVal a, datVal b] w' (ResT t w'))) :
    Calls Tryd.prog 6 #[.int .i64 op, v] w (ResT t w) := by
  obtain ⟨A, c, rfl, hc, hm⟩ := hv.len
  have HM := Lib.hid (fun w => arity_any op w)
  rw [← hl] at HM
  have hm0 : ((L.length : Int) == 0) = false := beq_eq_false_iff_ne.2 (by omega)
  have HV := Lib.hid hv
  have HA := Lib.hid ha
  have HT := Lib.hid hT
  have HL := Lib.hid hL
  have HOP := Lib.hid hop
  clear hL hop
  clear hv hl h0 ha hT
  unfold maxLen at hm
  have hb0 := (Below.refl w.heap.size w).alloc (Nat.le_refl _) (.cells #[.int .i64 0, .int .i64 0, .string noText] 24)
  have bR := Blk.new w #[.int .i64 0, .int .i64 0, .string noText] 24
  go_enter Tryd.func6, Tryd.ntmps6
  go_wp2_with (go_at_call 16; (with_reducible refine (HM.out _).mono ?_); rintro e w' ⟨rfl, rfl⟩)
  go_loopw [22] (fun i wr => ∃ n : Nat, i = .int .i64 n ∧ n ≤ L.length ∧ Hid ((L.take n).all rightD = true) ∧ Below w.heap.size w wr ∧ Blk wr w.heap.size #[.int .i64 0, .int .i64 0, .string noText] 24) (fun i _ => L.length - (intOf i).toNat)
  case atStart => exact ⟨0, rfl, Nat.zero_le _, rfl, hb0, bR⟩
  case round =>
    clear hb0 bR
    obtain ⟨n, rfl, hn, HN, hb, bR⟩ := hrel
    by_cases hlt : n < L.length
    · rcases HV.out with ⟨_, h0⟩ | ⟨b, off, c', e, _, hbl, hat, _⟩
      · rw [h0] at hlt; simp at hlt
      · injection e with e1 e2 e3
        subst e1 e3
        obtain ⟨h0, h1, h2⟩ := (hat.block (hb.block b hbl)).dat n hlt
        have HP : Hid (rightD L[n] = true → (L.take (n + 1)).all rightD = true) := fun hp => all_take hlt HN.out hp
        have HE : Hid (L[n] ∈ L) := List.getElem_mem hlt
        clear hat hbl hn HN
        revert HP HE h0 h1 h2
        generalize L[n] = d
        obtain ⟨dk, di, ds⟩ := d
        intro h0 h1 h2 HP HE
        simp only at h0 h1 h2
        have hz := hb.size
        have hn1 : (n : Int) + 1 ≤ 9223372036854775807 := by omega
        have bRo := bR.alloc (.cells #[.int .i64 dk, .int .i64 di, .string ds] 24)
        have hbo := hb.alloc hz (.cells #[.int .i64 dk, .int .i64 di, .string ds] 24)
        have HR := Lib.hid (right_any dk di ds _ (HT.out.below hbo))
        clear HM
        cases hd : rightD ⟨dk, di, ds⟩
        · have := List.all_eq_true.1 HA.out _ HE.out
          rw [hd] at this
          cases this
        · rw [hd] at HR
          have HQ := Lib.hid (HP.out hd)
          clear hd HP HA HE
          go_wp2_with (go_at_call 17; (with_reducible refine HR.out.mono ?_); rintro e w5 ⟨rfl, hb5⟩; have bR5 := bRo.below hb5; have h5 := hbo.trans (hb5.mono hbo.size))
          refine ⟨⟨n + 1, by go_num, hlt, HQ, h5, bR5⟩, ?_⟩
          simp [intOf]
          go_num
    · clear HN HA HM
      have hL := HL.out
      rcases HV.out with ⟨_, q0⟩ | ⟨b0, off, c', e, _, hbl, hat, _⟩
      · rw [hL] at q0; cases q0
      · injection e with e1 e2 e3
        subst e1 e3
        have hlt0 : 0 < L.length := by rw [hL]; simp
        have hlt1 : 1 < L.length := by rw [hL]; simp
        obtain ⟨x0, x1, x2⟩ := (hat.block (hb.block b0 hbl)).dat 0 hlt0
        obtain ⟨x3, x4, x5⟩ := (hat.block (hb.block b0 hbl)).dat 1 hlt1
        have e0 : L[0] = a := by simp [hL]
        have e1 : L[1] = b := by simp [hL]
        rw [e0] at x0 x1 x2
        rw [e1] at x3 x4 x5
        simp only [Nat.zero_mul, Nat.one_mul, Nat.add_zero] at x0 x1 x2 x3 x4 x5
        have hl1 : L.length = 2 := by rw [hL]; rfl
        have hc1 : (2 : Int) ≤ c := by omega
        obtain rfl : n = 2 := by omega
        have hbw : b0 ≠ w.heap.size := by omega
        rw [hl1]
        clear hat e0 e1 HV hL hl1 hlt hn hlt0 hlt1
        have hop := HOP.out
        rcases hop with rfl | rfl | rfl | rfl | rfl | rfl
        all_goals
          go_wp2_with fail
          go_region_held3 (fun w' => w'.cell? ⟨b0, off, none⟩ = some (.int .i64 a.k) ∧ w'.cell? ⟨b0, off + 1, none⟩ = some (.int .i64 a.i) ∧ w'.cell? ⟨b0, off + 2, none⟩ = some (.string a.s) ∧ w'.cell? ⟨b0, off + 3, none⟩ = some (.int .i64 b.k) ∧ w'.cell? ⟨b0, off + 3 + 1, none⟩ = some (.int .i64 b.i) ∧ w'.cell? ⟨b0, off + 3 + 2, none⟩ = some (.string b.s)) (first | exact ⟨x0, x1, x2, x3, x4, x5⟩ | exact ⟨y0, y1, y2, y3, y4, y5⟩ | exact ⟨cell_set3 hbw y0, cell_set3 hbw y1, cell_set3 hbw y2, cell_set3 hbw y3, cell_set3 hbw y4, cell_set3 hbw y5⟩) ((first
            | (go_at_call 25; (with_reducible refine (HP.out _).mono ?_); rintro e w7 ⟨rfl, hb7⟩; have bR7 := bR.drew.below hb7; have h7 := hb.drew.trans (hb7.mono hb.drew.size); have hlw := World.block_lt_of_cell? _ _ x0; have y0 := (hb7.cell (p := ⟨b0, off, none⟩) hlw).trans x0; have y1 := (hb7.cell (p := ⟨b0, off + 1, none⟩) hlw).trans x1; have y2 := (hb7.cell (p := ⟨b0, off + 2, none⟩) hlw).trans x2; have y3 := (hb7.cell (p := ⟨b0, off + 3, none⟩) hlw).trans x3; have y4 := (hb7.cell (p := ⟨b0, off + 3 + 1, none⟩) hlw).trans x4; have y5 := (hb7.cell (p := ⟨b0, off + 3 + 2, none⟩) hlw).trans x5; have r0 := bR7.cell 0; have r1 := bR7.cell 1; have r2 := bR7.cell 2; have f0 := bR7.frozen 0; have f1 := bR7.frozen 1; have f2 := bR7.frozen 2; simp only [List.getElem?_toArray, List.getElem?_cons_zero, List.getElem?_cons_succ] at r0 r1 r2)))
          go_step
          go_step
          go_wp2_with fail
          refine bodyPost_ret ?_ rfl ⟨rfl, ?_⟩
          · simp [results, Tryd.results6, go_sem, r0, r1, r2]
          · exact (((h7.setCell (by simp; try omega) _).setCell (by simp; try omega) _).setCell (by simp; try omega) _)


end Go.Proofs.YtimmgiiddckleaaDoor
