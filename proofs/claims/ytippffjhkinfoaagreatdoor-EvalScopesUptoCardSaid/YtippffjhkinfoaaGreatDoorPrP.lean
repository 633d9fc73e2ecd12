/-
  The program's parts of Apply, by the same plain functions as the reference's.
-/
import Derived.Test.YtippffjhkinfoaaGreatDoorRefAll
import Derived.Test.YtippffjhkinfoaaGreatDoorRel2
import Derived.Test.YtippffjhkinfoaaGreatDoorChange
namespace Go.Proofs.YtippffjhkinfoaaGreatDoor
open Go.RowKit

set_option maxRecDepth 100000 in
set_option maxHeartbeats 8000000 in
theorem arity_any (op : Int) (w : World) : Calls Tryz.prog 82 #[.int .i64 op] w fun e w' => e = .returned (.int .i64 (arityR op)) ∧ w' = w := by
  by_cases h1 : op = 1 ∨ op = 2 ∨ op = 15 ∨ op = 18 ∨ op = 19 ∨ op = 20
  · have : arityR op = 1 := by unfold arityR; rw [if_pos h1]
    rw [this]
    exact arity_one op w h1
  · by_cases h2 : 3 ≤ op ∧ op ≤ 14
    · have : arityR op = 2 := by unfold arityR; rw [if_neg h1, if_pos h2]
      rw [this]
      exact arity_two op w (by omega)
    · have : arityR op = 0 := by unfold arityR; rw [if_neg h1, if_neg h2]
      rw [this]
      have e1 : (op == 1) = false := beq_eq_false_iff_ne.2 (by omega)
      have e2 : (op == 2) = false := beq_eq_false_iff_ne.2 (by omega)
      have e15 : (op == 15) = false := beq_eq_false_iff_ne.2 (by omega)
      have e18 : (op == 18) = false := beq_eq_false_iff_ne.2 (by omega)
      have e19 : (op == 19) = false := beq_eq_false_iff_ne.2 (by omega)
      have e20 : (op == 20) = false := beq_eq_false_iff_ne.2 (by omega)
      have e3 : (op == 3) = false := beq_eq_false_iff_ne.2 (by omega)
      have e4 : (op == 4) = false := beq_eq_false_iff_ne.2 (by omega)
      have e5 : (op == 5) = false := beq_eq_false_iff_ne.2 (by omega)
      have e6 : (op == 6) = false := beq_eq_false_iff_ne.2 (by omega)
      have e7 : (op == 7) = false := beq_eq_false_iff_ne.2 (by omega)
      have e8 : (op == 8) = false := beq_eq_false_iff_ne.2 (by omega)
      have e9 : (op == 9) = false := beq_eq_false_iff_ne.2 (by omega)
      have e10 : (op == 10) = false := beq_eq_false_iff_ne.2 (by omega)
      have e11 : (op == 11) = false := beq_eq_false_iff_ne.2 (by omega)
      have e12 : (op == 12) = false := beq_eq_false_iff_ne.2 (by omega)
      have e13 : (op == 13) = false := beq_eq_false_iff_ne.2 (by omega)
      have e14 : (op == 14) = false := beq_eq_false_iff_ne.2 (by omega)
      clear h1 h2 this
      go_enter Tryz.func82, Tryz.ntmps82
      go_wp2
      go_ret
      exact ⟨rfl, rfl⟩

set_option maxRecDepth 100000 in
set_option maxHeartbeats 8000000 in
theorem change_null (op i : Int) (s : ByteArray) (w : World) :
    Calls Tryz.prog 87 #[.int .i64 op, .agg #[.int .i64 0, .int .i64 i, .string s]] w (ResPost 0 0 0 w) := by
  go_enter Tryz.func87, Tryz.ntmps87
  go_wp2_with (go_at_call 86; refine (isNull_any _ _ _ _).mono ?_; rintro e w' ⟨rfl, rfl⟩)
  refine bodyPost_ret (v := .tuple #[.agg #[.int .i64 0, .int .i64 0, .string noText], .int .i64 0]) ?_ rfl ⟨rfl, ?_⟩
  · simp [results, Tryz.results87, go_sem]
  · repeat (first | exact Below.refl _ _ | assumption | refine Below.alloc ?_ (by simp <;> omega) _ | refine Below.setCell ?_ (by simp <;> omega) _)

set_option maxRecDepth 100000 in
set_option maxHeartbeats 8000000 in
theorem change_type (op k i : Int) (s : ByteArray) (w : World) (h0 : k ≠ 0) (hn : numB k = false) :
    Calls Tryz.prog 87 #[.int .i64 op, .agg #[.int .i64 k, .int .i64 i, .string s]] w (ResPost 0 0 5 w) := by
  have e0 : (k == 0) = false := beq_eq_false_iff_ne.2 h0
  have HN := Lib.hid hn
  clear h0 hn
  go_enter Tryz.func87, Tryz.ntmps87
  go_wp2_with (first
    | (go_at_call 86; refine (isNull_any _ _ _ _).mono ?_; rintro e w' ⟨rfl, rfl⟩)
    | (go_at_call 109; refine (isNumber_any _ _ _ _).mono ?_; rintro e w' ⟨rfl, rfl⟩; rw [HN.out]))
  refine bodyPost_ret (v := .tuple #[.agg #[.int .i64 0, .int .i64 0, .string noText], .int .i64 5]) ?_ rfl ⟨rfl, ?_⟩
  · simp [results, Tryz.results87, go_sem]
  · repeat (first | exact Below.refl _ _ | assumption | refine Below.alloc ?_ (by simp <;> omega) _ | refine Below.setCell ?_ (by simp <;> omega) _)

set_option maxRecDepth 100000 in
set_option maxHeartbeats 8000000 in
theorem change_pos (k i : Int) (w : World) (h0 : k ≠ 0) (hn : numB k = true) (hi : 0 ≤ i) :
    Calls Tryz.prog 87 #[.int .i64 19, .agg #[.int .i64 k, .int .i64 i, .string noText]] w (ResPost k i 0 w) := by
  have e0 : (k == 0) = false := beq_eq_false_iff_ne.2 h0
  have HN := Lib.hid hn
  clear h0 hn
  go_enter Tryz.func87, Tryz.ntmps87
  go_wp2_with (first
    | (go_at_call 86; refine (isNull_any _ _ _ _).mono ?_; rintro e w' ⟨rfl, rfl⟩)
    | (go_at_call 109; refine (isNumber_any _ _ _ _).mono ?_; rintro e w' ⟨rfl, rfl⟩; rw [HN.out]))
  refine bodyPost_ret (v := .tuple #[.agg #[.int .i64 k, .int .i64 i, .string noText], .int .i64 0]) ?_ rfl ⟨rfl, ?_⟩
  · simp [results, Tryz.results87, go_sem]
  · repeat (first | exact Below.refl _ _ | assumption | refine Below.alloc ?_ (by simp <;> omega) _ | refine Below.setCell ?_ (by simp <;> omega) _)

set_option maxRecDepth 100000 in
set_option maxHeartbeats 8000000 in
theorem change_neg (k i V : Int) (B : Bool) (s : ByteArray) (w : World) (h0 : k ≠ 0) (hn : numB k = true) (hV : IntKind.i64.wrap (-i) = V) (hB : (i != -9223372036854775808) = B) :
    Calls Tryz.prog 87 #[.int .i64 1, .agg #[.int .i64 k, .int .i64 i, .string s]] w (ResPost (if B then k else 0) (if B then V else 0) (if B then 0 else 4) w) := by
  have e0 : (k == 0) = false := beq_eq_false_iff_ne.2 h0
  have HN := Lib.hid hn
  have HC := Lib.hid (fun w => number_any k V B w)

  clear h0 hn
  generalize (if B then k else 0) = K at *
  generalize (if B then V else 0) = I at *
  generalize (if B then (0 : Int) else 4) = E at *
  have bR := (Blk.atB (w := w.alloc (.cells #[.int .i64 k, .int .i64 i, .string s] 27)) (b := w.heap.size + 1) (cs := #[.int .i64 0, .int .i64 0, .string noText]) (t := 27) (by simp))
  have hb0 := ((Below.refl w.heap.size w).alloc (Nat.le_refl _) (.cells #[.int .i64 k, .int .i64 i, .string s] 27)).alloc (by simp) (.cells #[.int .i64 0, .int .i64 0, .string noText] 27)
  go_enter Tryz.func87, Tryz.ntmps87
  go_wp2_with (first
    | (go_at_call 86; refine (isNull_any _ _ _ _).mono ?_; rintro e w' ⟨rfl, rfl⟩)
    | (go_at_call 109; refine (isNumber_any _ _ _ _).mono ?_; rintro e w' ⟨rfl, rfl⟩; rw [HN.out])
    | (go_at_call 111; (with_reducible refine (HC.out _).mono ?_); rintro e w5 ⟨rfl, hb5⟩; have bR5 := ((bR.alloc (.cells #[.int .i64 k, .int .i64 i, .string s] 27)).alloc (.cells #[.int .i64 k, .int .i64 i, .string s] 27)).below hb5; have hz := hb0.size; have hb4 := (hb0.alloc hz (.cells #[.int .i64 k, .int .i64 i, .string s] 27)).alloc (by simp; omega) (.cells #[.int .i64 k, .int .i64 i, .string s] 27); have h5 := hb4.trans (hb5.mono hb4.size); have r0 := bR5.cell 0; have r1 := bR5.cell 1; have r2 := bR5.cell 2; have f0 := bR5.frozen 0; have f1 := bR5.frozen 1; have f2 := bR5.frozen 2; simp only [List.getElem?_toArray, List.getElem?_cons_zero, List.getElem?_cons_succ] at r0 r1 r2))
  refine bodyPost_ret ?_ rfl ⟨rfl, ?_⟩
  · simp [results, Tryz.results87, go_sem, r0, r1, r2]
  · exact (((h5.setCell (by simp; try omega) _).setCell (by simp; try omega) _).setCell (by simp; try omega) _)

set_option maxRecDepth 100000 in
set_option maxHeartbeats 8000000 in
theorem change_abs (k i V : Int) (B : Bool) (s : ByteArray) (w : World) (h0 : k ≠ 0) (hn : numB k = true) (hV : IntKind.i64.wrap (-i) = V) (hB : (i != -9223372036854775808) = B) (hi : i < 0) :
    Calls Tryz.prog 87 #[.int .i64 19, .agg #[.int .i64 k, .int .i64 i, .string s]] w (ResPost (if B then k else 0) (if B then V else 0) (if B then 0 else 4) w) := by
  have e0 : (k == 0) = false := beq_eq_false_iff_ne.2 h0
  have HN := Lib.hid hn
  have HC := Lib.hid (fun w => number_any k V B w)
  have hi' : decide (0 ≤ i) = false := decide_eq_false (by omega)
  clear h0 hn
  generalize (if B then k else 0) = K at *
  generalize (if B then V else 0) = I at *
  generalize (if B then (0 : Int) else 4) = E at *
  have bR := (Blk.atB (w := w.alloc (.cells #[.int .i64 k, .int .i64 i, .string s] 27)) (b := w.heap.size + 1) (cs := #[.int .i64 0, .int .i64 0, .string noText]) (t := 27) (by simp))
  have hb0 := ((Below.refl w.heap.size w).alloc (Nat.le_refl _) (.cells #[.int .i64 k, .int .i64 i, .string s] 27)).alloc (by simp) (.cells #[.int .i64 0, .int .i64 0, .string noText] 27)
  go_enter Tryz.func87, Tryz.ntmps87
  go_wp2_with (first
    | (go_at_call 86; refine (isNull_any _ _ _ _).mono ?_; rintro e w' ⟨rfl, rfl⟩)
    | (go_at_call 109; refine (isNumber_any _ _ _ _).mono ?_; rintro e w' ⟨rfl, rfl⟩; rw [HN.out])
    | (go_at_call 111; (with_reducible refine (HC.out _).mono ?_); rintro e w5 ⟨rfl, hb5⟩; have bR5 := ((bR.alloc (.cells #[.int .i64 k, .int .i64 i, .string s] 27)).alloc (.cells #[.int .i64 k, .int .i64 i, .string s] 27)).below hb5; have hz := hb0.size; have hb4 := (hb0.alloc hz (.cells #[.int .i64 k, .int .i64 i, .string s] 27)).alloc (by simp; omega) (.cells #[.int .i64 k, .int .i64 i, .string s] 27); have h5 := hb4.trans (hb5.mono hb4.size); have r0 := bR5.cell 0; have r1 := bR5.cell 1; have r2 := bR5.cell 2; have f0 := bR5.frozen 0; have f1 := bR5.frozen 1; have f2 := bR5.frozen 2; simp only [List.getElem?_toArray, List.getElem?_cons_zero, List.getElem?_cons_succ] at r0 r1 r2))
  refine bodyPost_ret ?_ rfl ⟨rfl, ?_⟩
  · simp [results, Tryz.results87, go_sem, r0, r1, r2]
  · exact (((h5.setCell (by simp; try omega) _).setCell (by simp; try omega) _).setCell (by simp; try omega) _)

theorem neg_fit (k i : Int) (h : -9223372036854775808 ≤ i ∧ i ≤ 9223372036854775807) :
    ((if (i != -9223372036854775808) then k else 0) = fitK k (-i)) ∧ ((if (i != -9223372036854775808) then IntKind.i64.wrap (-i) else 0) = fitI (-i)) ∧ ((if (i != -9223372036854775808) then (0 : Int) else 4) = fitE (-i)) := by
  unfold fitK fitI fitE
  by_cases hi : i = -9223372036854775808
  · have e : fitsB (-i) = false := by unfold fitsB; rw [decide_eq_false_iff_not]; omega
    rw [e, hi]; exact ⟨rfl, rfl, rfl⟩
  · have e : fitsB (-i) = true := by unfold fitsB; rw [decide_eq_true_eq]; omega
    have e2 : (i != -9223372036854775808) = true := by simpa using hi
    rw [e, e2]
    refine ⟨rfl, ?_, rfl⟩
    rw [if_pos rfl, if_pos rfl, IntWalk.i64_in _ (by omega)]
theorem okEl_num {a : Dat} (h0 : a.k ≠ 0) : okEl 2 3 a = numB a.k := by
  unfold okEl numB
  rw [Bool.eq_iff_iff]
  simp
  omega

/-- change: of a value that may be. -/
theorem change_any (op : Int) (hop : op = 1 ∨ op = 19 ∨ op = 20) (a : Dat) (ha : rightD a = true) (hI : InI a) (w : World) :
    Calls Tryz.prog 87 #[.int .i64 op, datVal a] w (ResT (unR op a) w) := by
  obtain ⟨k, i, s⟩ := a
  unfold unR
  simp only
  by_cases h0 : k = 0
  · subst h0
    rw [if_neg (by simp [okEl]), if_pos rfl]
    exact change_null op i s w
  · rw [okEl_num h0]
    cases hn : numB k
    · rw [if_pos rfl]
      exact change_type op k i s w h0 hn
    · rw [if_neg (by decide), if_neg h0]
      have hk : k = 2 ∨ k = 3 := by unfold numB at hn; simpa using hn
      obtain rfl : s = noText := right_num ha hk
      unfold InI at hI
      simp only at hI
      have neg := neg_fit k i hI
      rcases hop with rfl | rfl | rfl
      · rw [if_neg (by decide), if_pos (.inl rfl)]
        have h := change_neg k i _ _ noText w h0 hn rfl rfl
        rw [neg.1, neg.2.1, neg.2.2] at h
        exact h
      · rw [if_neg (by decide)]
        by_cases hi : i < 0
        · rw [if_pos (.inr hi)]
          have h := change_abs k i _ _ noText w h0 hn rfl rfl hi
          rw [neg.1, neg.2.1, neg.2.2] at h
          exact h
        · rw [if_neg (by omega)]
          exact change_pos k i w h0 hn (by omega)
      · rw [if_pos rfl]
        rcases hk with rfl | rfl
        · have h := change_dec 2 i _ _ noText w (.inl rfl) (Lib.hid fun w => scaled_int i noText w hI)
          have e : scB i = fitsB (numZ 2 i) := rfl
          have e2 : (if fitsB (numZ 2 i) = true then scV i else 0) = fitI (numZ 2 i) := by
            unfold fitI
            cases hb : fitsB (numZ 2 i)
            · rfl
            · rw [if_pos rfl, if_pos rfl]
              exact scV_eq i hb
          rw [e, e2] at h
          exact h
        · have h := change_dec 3 i _ _ noText w (.inr rfl) (Lib.hid fun w => scaled_dec i noText w)
          have e : fitsB (numZ 3 i) = true := by unfold fitsB numZ; rw [decide_eq_true_eq]; exact hI
          unfold fitT fitK fitI fitE
          rw [e]
          exact h

set_option maxRecDepth 100000 in
set_option maxHeartbeats 8000000 in
theorem plen_null (i : Int) (s : ByteArray) (w : World) :
    Calls Tryz.prog 89 #[.agg #[.int .i64 0, .int .i64 i, .string s]] w (ResPost 0 0 0 w) := by
  go_enter Tryz.func89, Tryz.ntmps89
  go_wp2
  refine bodyPost_ret (v := .tuple #[.agg #[.int .i64 0, .int .i64 0, .string noText], .int .i64 0]) ?_ rfl ⟨rfl, ?_⟩
  · simp [results, Tryz.results89, go_sem]
  · repeat (first | exact Below.refl _ _ | assumption | refine Below.alloc ?_ (by simp <;> omega) _ | refine Below.setCell ?_ (by simp <;> omega) _)

set_option maxRecDepth 100000 in
set_option maxHeartbeats 8000000 in
theorem plen_type (k i : Int) (s : ByteArray) (w : World) (h0 : k ≠ 0) (h4 : k ≠ 4) (h5 : k ≠ 5) :
    Calls Tryz.prog 89 #[.agg #[.int .i64 k, .int .i64 i, .string s]] w (ResPost 0 0 5 w) := by
  have e0 : (k == 0) = false := beq_eq_false_iff_ne.2 h0
  have e4 : (k == 4) = false := beq_eq_false_iff_ne.2 h4
  have e5 : (k == 5) = false := beq_eq_false_iff_ne.2 h5
  clear h0 h4 h5
  go_enter Tryz.func89, Tryz.ntmps89
  go_wp2
  refine bodyPost_ret (v := .tuple #[.agg #[.int .i64 0, .int .i64 0, .string noText], .int .i64 5]) ?_ rfl ⟨rfl, ?_⟩
  · simp [results, Tryz.results89, go_sem]
  · repeat (first | exact Below.refl _ _ | assumption | refine Below.alloc ?_ (by simp <;> omega) _ | refine Below.setCell ?_ (by simp <;> omega) _)

set_option maxRecDepth 100000 in
set_option maxHeartbeats 8000000 in
theorem plen_bytes (i : Int) (s : ByteArray) (w : World) :
    Calls Tryz.prog 89 #[.agg #[.int .i64 5, .int .i64 i, .string s]] w (ResPost 2 s.size 0 w) := by
  go_enter Tryz.func89, Tryz.ntmps89
  go_wp2
  refine bodyPost_ret (v := .tuple #[.agg #[.int .i64 2, .int .i64 s.size, .string noText], .int .i64 0]) ?_ rfl ⟨rfl, ?_⟩
  · simp [results, Tryz.results89, go_sem]
  · repeat (first | exact Below.refl _ _ | assumption | refine Below.alloc ?_ (by simp <;> omega) _ | refine Below.setCell ?_ (by simp <;> omega) _)

set_option maxRecDepth 100000 in
set_option maxHeartbeats 8000000 in
theorem plen_text (i : Int) (s : ByteArray) (w : World) (hs : s.size ≤ 1000) :
    Calls Tryz.prog 89 #[.agg #[.int .i64 4, .int .i64 i, .string s]] w (ResPost 2 (runeC s 0) 0 w) := by
  have HC := Lib.hid (fun w => cnt_any s w hs)
  have bR := (Blk.atB (w := w.alloc (.cells #[.int .i64 4, .int .i64 i, .string s] 27)) (b := w.heap.size + 1) (cs := #[.int .i64 0, .int .i64 0, .string noText]) (t := 27) (by simp))
  have hb0 := ((Below.refl w.heap.size w).alloc (Nat.le_refl _) (.cells #[.int .i64 4, .int .i64 i, .string s] 27)).alloc (by simp) (.cells #[.int .i64 0, .int .i64 0, .string noText] 27)
  go_enter Tryz.func89, Tryz.ntmps89
  go_wp2_with (go_at_call 113; (with_reducible refine (HC.out _).mono ?_); rintro e w3 ⟨rfl, hb3⟩; have bR3 := bR.below hb3; have h3 := hb0.trans (hb3.mono hb0.size); have r0 := bR3.cell 0; have r1 := bR3.cell 1; have r2 := bR3.cell 2; have f0 := bR3.frozen 0; have f1 := bR3.frozen 1; have f2 := bR3.frozen 2; simp only [List.getElem?_toArray, List.getElem?_cons_zero, List.getElem?_cons_succ] at r0 r1 r2)
  refine bodyPost_ret ?_ rfl ⟨rfl, ?_⟩
  · simp [results, Tryz.results89, go_sem, r0, r1, r2]
  · exact (((h3.setCell (by simp; try omega) _).setCell (by simp; try omega) _).setCell (by simp; try omega) _)

theorem plen_any (a : Dat) (ha : rightD a = true) (w : World) : Calls Tryz.prog 89 #[datVal a] w (ResT (lenR a) w) := by
  have hk := rightD_kind a ha
  have hz := rightD_size a ha
  obtain ⟨k, i, s⟩ := a
  unfold lenR
  simp only at *
  by_cases h0 : k = 0
  · subst h0
    rw [if_pos rfl]
    exact plen_null i s w
  · rw [if_neg h0]
    by_cases h4 : k < 4
    · rw [if_pos h4]
      exact plen_type k i s w h0 (by omega) (by omega)
    · rw [if_neg h4]
      by_cases h5 : k = 4
      · subst h5
        rw [if_pos rfl]
        exact plen_text i s w hz
      · obtain rfl : k = 5 := by omega
        rw [if_neg h5]
        exact plen_bytes i s w

theorem cmpN_eq (k1 i1 k2 i2 : Int) (h1 : k1 = 2 ∨ k1 = 3) (h2 : k2 = 2 ∨ k2 = 3) (b1 : -9223372036854775808 ≤ i1 ∧ i1 ≤ 9223372036854775807) (b2 : -9223372036854775808 ≤ i2 ∧ i2 ≤ 9223372036854775807) :
    cmpN k1 i1 k2 i2 = ordI (numZ k1 i1) (numZ k2 i2) := by
  have s1 : scB i1 = true → scV i1 = i1 * 10000 := scV_eq i1
  have s2 : scB i2 = true → scV i2 = i2 * 10000 := scV_eq i2
  have t1 : scB i1 = decide (-9223372036854775808 ≤ i1 * 10000 ∧ i1 * 10000 ≤ 9223372036854775807) := rfl
  have t2 : scB i2 = decide (-9223372036854775808 ≤ i2 * 10000 ∧ i2 * 10000 ≤ 9223372036854775807) := rfl
  unfold cmpN numZ
  rcases h1 with rfl | rfl <;> rcases h2 with rfl | rfl
  · simp only [if_true]
    unfold ordI
    split <;> split <;> (try split) <;> (try split) <;> first | rfl | omega
  · show (if scB i1 = true then ordI (scV i1) i2 else ordI i1 0) = ordI (i1 * 10000) i2
    cases hb : scB i1
    · rw [hb] at t1
      have t1 := of_decide_eq_false t1.symm
      simp only [Bool.false_eq_true, if_false]
      unfold ordI
      split <;> (try split) <;> (try split) <;> (try split) <;> first | rfl | omega
    · simp only [if_true]
      rw [s1 hb]
  · show (if scB i2 = true then ordI i1 (scV i2) else ordI 0 i2) = ordI i1 (i2 * 10000)
    cases hb : scB i2
    · rw [hb] at t2
      have t2 := of_decide_eq_false t2.symm
      simp only [Bool.false_eq_true, if_false]
      unfold ordI
      split <;> (try split) <;> (try split) <;> (try split) <;> first | rfl | omega
    · simp only [if_true]
      rw [s2 hb]
  · rw [if_pos rfl, if_neg (by decide), if_neg (by decide)]

/-- relate: of values that may be. -/
theorem relate_any (op : Int) (hop : op = 7 ∨ op = 8 ∨ op = 9 ∨ op = 10 ∨ op = 11 ∨ op = 12) (a b : Dat) (ha : rightD a = true) (hb : rightD b = true) (hI : InI a) (hJ : InI b) (w : World) :
    Calls Tryz.prog 90 #[.int .i64 op, datVal a, datVal b] w (ResT (relR op a b) w) := by
  obtain ⟨k1, i1, s1⟩ := a
  obtain ⟨k2, i2, s2⟩ := b
  unfold relR
  simp only
  by_cases h1 : k1 = 0
  · rw [if_pos (.inl h1)]
    exact rel_null1 op k1 i1 s1 k2 i2 s2 h1 w
  · by_cases h2 : k2 = 0
    · rw [if_pos (.inr h2)]
      exact rel_null2 op k1 i1 s1 k2 i2 s2 h1 h2 w
    · rw [if_neg (by omega)]
      cases n1 : numB k1
      · rw [if_neg (by simp)]
        by_cases hk : k1 = k2
        · rw [if_neg (by omega)]
          have h := rel_same op k1 i1 s1 k2 i2 s2 hop h1 n1 hk.symm w
          subst hk
          exact h
        · rw [if_pos hk]
          exact rel_type op k1 i1 s1 k2 i2 s2 h1 h2 (.inl n1) hk w
      · cases n2 : numB k2
        · have hk : k1 ≠ k2 := by intro e; rw [e, n2] at n1; cases n1
          rw [if_neg (by simp), if_pos hk]
          exact rel_type op k1 i1 s1 k2 i2 s2 h1 h2 (.inr ⟨n1, n2⟩) hk w
        · rw [if_pos (show (true && true) = true from rfl)]
          have q1 : k1 = 2 ∨ k1 = 3 := by unfold numB at n1; simpa using n1
          have q2 : k2 = 2 ∨ k2 = 3 := by unfold numB at n2; simpa using n2
          unfold InI at hI hJ
          simp only at hI hJ
          refine rel_num op k1 i1 s1 k2 i2 s2 _ hop n1 n2 (Lib.hid fun w => ?_) w
          unfold cmpZ
          simp only
          obtain rfl : s1 = noText := right_num ha q1
          obtain rfl : s2 = noText := right_num hb q2
          rw [← cmpN_eq k1 i1 k2 i2 q1 q2 hI hJ]
          rcases q1 with rfl | rfl <;> rcases q2 with rfl | rfl
          · exact cmpN_same 2 i1 i2 w
          · exact cmpN_id i1 i2 w hI
          · exact cmpN_di i1 i2 w hJ
          · exact cmpN_same 3 i1 i2 w


end Go.Proofs.YtippffjhkinfoaaGreatDoor
