/-
  The law DatumLogic: it returns true for every three values; no conditions.
-/
import Derived.Test.YtkobjlmnbfkgaaaDoorClo
import Derived.Test.YtkobjlmnbfkgaaaDoorRefRight
import Derived.Deep.LoopGhost
import Derived.Test.YtkobjlmnbfkgaaaDoorKept
namespace Go.Proofs.YtkobjlmnbfkgaaaDoor
open Go.RowKit

theorem toList_iff (s1 s2 : ByteArray) : s1.toList = s2.toList ↔ s1 = s2 := by
  constructor
  · intro h
    rw [ByteArray.toList_eq, ByteArray.toList_eq] at h
    cases s1; cases s2; simp at h; simp [h]
  · intro h; rw [h]

theorem run_eq_datum (k1 i1 : Int) (s1 : ByteArray) (k2 i2 : Int) (s2 : ByteArray) (w : World) :
    (binOp .eql 23 (.agg #[.int .i64 k1, .int .i64 i1, .string s1]) (.agg #[.int .i64 k2, .int .i64 i2, .string s2])).run Tryd.prog w = .ok (.bool (decide (k1 = k2 ∧ i1 = i2 ∧ s1 = s2))) w := by
  go_simp
  simp only [toList_iff]
  by_cases h1 : k1 = k2
  · by_cases h2 : i1 = i2
    · by_cases h3 : s1 = s2
      · simp [h1, h2, h3]
      · simp [h1, h2, h3]
    · simp [h1, h2]
  · simp [h1]

/-- NULL or a BOOL that may be. -/
def Good (k i : Int) (s : ByteArray) : Prop := s = noText ∧ ((k = 0 ∧ i = 0) ∨ (k = 1 ∧ (i = 0 ∨ i = 1)))

theorem Good.ok {k i : Int} {s : ByteArray} (h : Good k i s) : okSmall k i := by
  obtain ⟨_, h | h⟩ := h
  · exact .inl h
  · exact .inr (.inl h)

/-- A value is good; or its kind is none of the two; or Right says no. -/
theorem good_or (k i : Int) (s : ByteArray) : (Good k i s ∧ (k = 0 ∨ k = 1) ∧ ∀ w : World, Calls Tryd.prog 10 #[.agg #[.int .i64 k, .int .i64 i, .string s]] w (RightPost true w)) ∨
    (k ≠ 0 ∧ k ≠ 1) ∨ ((k = 0 ∨ k = 1) ∧ ∀ w : World, Calls Tryd.prog 10 #[.agg #[.int .i64 k, .int .i64 i, .string s]] w (RightPost false w)) := by
  by_cases h0 : k = 0 ∨ k = 1
  · by_cases hs : s = noText
    · subst hs
      rcases h0 with rfl | rfl
      · by_cases hi : i = 0
        · subst hi
          exact .inl ⟨⟨rfl, .inl ⟨rfl, rfl⟩⟩, .inl rfl, fun w => refRight_null 0 w⟩
        · refine .inr (.inr ⟨.inl rfl, fun w => ?_⟩)
          have := refRight_null i w
          rwa [show (i == 0) = false by simpa using hi] at this
      · by_cases hi : i = 0 ∨ i = 1
        · refine .inl ⟨⟨rfl, .inr ⟨rfl, hi⟩⟩, .inr rfl, fun w => ?_⟩
          have := refRight_bool i w
          rwa [show (i == 0 || i == 1) = true by simpa using hi] at this
        · refine .inr (.inr ⟨.inr rfl, fun w => ?_⟩)
          have := refRight_bool i w
          rwa [show (i == 0 || i == 1) = false by simpa using hi] at this
    · exact .inr (.inr ⟨h0, fun w => refRight_text k i s (by omega) hs w⟩)
  · exact .inr (.inl ⟨fun h => h0 (.inl h), fun h => h0 (.inr h)⟩)

theorem good_join {k1 i1 k2 i2 : Int} {s1 s2 : ByteArray} {st : Int} (h1 : Good k1 i1 s1) (h2 : Good k2 i2 s2) (hs : st = 0 ∨ st = 1) : Good (joinR k1 i1 k2 i2 st).1 (joinR k1 i1 k2 i2 st).2.1 noText := by
  refine ⟨rfl, ?_⟩
  obtain ⟨_, ⟨rfl, rfl⟩ | ⟨rfl, rfl | rfl⟩⟩ := h1 <;> obtain ⟨_, ⟨rfl, rfl⟩ | ⟨rfl, rfl | rfl⟩⟩ := h2 <;> rcases hs with rfl | rfl <;> simp [joinR, bitOf]
theorem good_not {k1 i1 : Int} {s1 : ByteArray} (h1 : Good k1 i1 s1) : Good (notR k1 i1).1 (notR k1 i1).2.1 noText := by
  refine ⟨rfl, ?_⟩
  obtain ⟨_, ⟨rfl, rfl⟩ | ⟨rfl, rfl | rfl⟩⟩ := h1 <;> simp [notR, bitOf]

/-- AND and OR and NOT of values without a text, the kind and the number. -/
def andP (x y : Int × Int) : Int × Int := ((joinR x.1 x.2 y.1 y.2 0).1, (joinR x.1 x.2 y.1 y.2 0).2.1)
def orP (x y : Int × Int) : Int × Int := ((joinR x.1 x.2 y.1 y.2 1).1, (joinR x.1 x.2 y.1 y.2 1).2.1)
def notP (x : Int × Int) : Int × Int := ((notR x.1 x.2).1, (notR x.1 x.2).2.1)
/-- May it be? -/
def GP (x : Int × Int) : Prop := Good x.1 x.2 noText
theorem GP.and {x y : Int × Int} (h1 : GP x) (h2 : GP y) : GP (andP x y) := good_join h1 h2 (.inl rfl)
theorem GP.or {x y : Int × Int} (h1 : GP x) (h2 : GP y) : GP (orP x y) := good_join h1 h2 (.inr rfl)
theorem GP.not {x : Int × Int} (h1 : GP x) : GP (notP x) := good_not h1
theorem GP.cases {x : Int × Int} (h : GP x) : x = (0, 0) ∨ x = (1, 0) ∨ x = (1, 1) := by
  obtain ⟨a, b⟩ := x
  obtain ⟨_, ⟨h1, h2⟩ | ⟨h1, h2 | h2⟩⟩ := h <;> simp at h1 h2 <;> simp [h1, h2]

theorem law_comm (x y : Int × Int) (hx : GP x) (hy : GP y) : andP x y = andP y x ∧ orP x y = orP y x ∧ notP (andP x y) = orP (notP x) (notP y) ∧ notP (notP x) = x ∧ andP x x = x := by
  rcases hx.cases with rfl | rfl | rfl <;> rcases hy.cases with rfl | rfl | rfl <;> decide
theorem law_assoc (x y z : Int × Int) (hx : GP x) (hy : GP y) (hz : GP z) : andP x (andP y z) = andP (andP x y) z ∧ andP x (orP y z) = orP (andP x y) (andP x z) := by
  rcases hx.cases with rfl | rfl | rfl <;> rcases hy.cases with rfl | rfl | rfl <;> rcases hz.cases with rfl | rfl | rfl <;> decide

theorem cloAnd (x y : Int × Int) (w : World) (hx : Hid (GP x)) (hy : Hid (GP y)) : Calls Tryd.prog 18 #[.agg #[.int .i64 x.1, .int .i64 x.2, .string noText], .agg #[.int .i64 y.1, .int .i64 y.2, .string noText]] w (ValPost (andP x y).1 (andP x y).2 w) := clo_and _ _ _ _ w hx.out.ok hy.out.ok
theorem cloOr (x y : Int × Int) (w : World) (hx : Hid (GP x)) (hy : Hid (GP y)) : Calls Tryd.prog 19 #[.agg #[.int .i64 x.1, .int .i64 x.2, .string noText], .agg #[.int .i64 y.1, .int .i64 y.2, .string noText]] w (ValPost (orP x y).1 (orP x y).2 w) := clo_or _ _ _ _ w hx.out.ok hy.out.ok
theorem cloNot (x : Int × Int) (w : World) (hx : Hid (GP x)) : Calls Tryd.prog 20 #[.agg #[.int .i64 x.1, .int .i64 x.2, .string noText]] w (ValPost (notP x).1 (notP x).2 w) := clo_not _ _ w hx.out.ok

theorem eq_true_of {x y : Int × Int} (h : x = y) (w : World) :
    (binOp .eql 23 (.agg #[.int .i64 x.1, .int .i64 x.2, .string noText]) (.agg #[.int .i64 y.1, .int .i64 y.2, .string noText])).run Tryd.prog w = .ok (.bool true) w := by
  rw [run_eq_datum, h]; simp

set_option maxHeartbeats 16000000 in
set_option maxRecDepth 100000 in
theorem logic_any (ka ia : Int) (sa : ByteArray) (kb ib : Int) (sb : ByteArray) (kc ic : Int) (sc : ByteArray) (w : World) :
    Calls Tryd.prog 6 #[.agg #[.int .i64 ka, .int .i64 ia, .string sa], .agg #[.int .i64 kb, .int .i64 ib, .string sb], .agg #[.int .i64 kc, .int .i64 ic, .string sc]] w fun e w' => e = .returned (.bool true) ∧ Below w.heap.size w w' := by
  have C1 := Lib.hid (good_or ka ia sa)
  have C2 := Lib.hid (good_or kb ib sb)
  have C3 := Lib.hid (good_or kc ic sc)
  go_enter Tryd.func6, Tryd.ntmps6
  go_wp2_with fail
  have B0 := (((Blk.new' (W := w) (cs := #[.int .i64 ka, .int .i64 ia, .string sa]) (t := 23) (n := w.heap.size) (by simp)).alloc (.cells #[.int .i64 kb, .int .i64 ib, .string sb] 23)).alloc (.cells #[.int .i64 kc, .int .i64 ic, .string sc] 23)).alloc (.cells #[.int .i64 ka, .int .i64 ia, .string sa, .int .i64 kb, .int .i64 ib, .string sb, .int .i64 kc, .int .i64 ic, .string sc] 23)
  have B1 := ((Blk.new' (W := (w.alloc (.cells #[.int .i64 ka, .int .i64 ia, .string sa] 23))) (cs := #[.int .i64 kb, .int .i64 ib, .string sb]) (t := 23) (n := w.heap.size + 1) (by simp)).alloc (.cells #[.int .i64 kc, .int .i64 ic, .string sc] 23)).alloc (.cells #[.int .i64 ka, .int .i64 ia, .string sa, .int .i64 kb, .int .i64 ib, .string sb, .int .i64 kc, .int .i64 ic, .string sc] 23)
  have B2 := (Blk.new' (W := ((w.alloc (.cells #[.int .i64 ka, .int .i64 ia, .string sa] 23)).alloc (.cells #[.int .i64 kb, .int .i64 ib, .string sb] 23))) (cs := #[.int .i64 kc, .int .i64 ic, .string sc]) (t := 23) (n := w.heap.size + 1 + 1) (by simp)).alloc (.cells #[.int .i64 ka, .int .i64 ia, .string sa, .int .i64 kb, .int .i64 ib, .string sb, .int .i64 kc, .int .i64 ic, .string sc] 23)
  have B3 := Blk.new' (W := ((w.alloc (.cells #[.int .i64 ka, .int .i64 ia, .string sa] 23)).alloc (.cells #[.int .i64 kb, .int .i64 ib, .string sb] 23)).alloc (.cells #[.int .i64 kc, .int .i64 ic, .string sc] 23)) (cs := #[.int .i64 ka, .int .i64 ia, .string sa, .int .i64 kb, .int .i64 ib, .string sb, .int .i64 kc, .int .i64 ic, .string sc]) (t := 23) (n := w.heap.size + 1 + 1 + 1) (by simp)
  have hw0 : Below w.heap.size w ((((w.alloc (.cells #[.int .i64 ka, .int .i64 ia, .string sa] 23)).alloc (.cells #[.int .i64 kb, .int .i64 ib, .string sb] 23)).alloc (.cells #[.int .i64 kc, .int .i64 ic, .string sc] 23)).alloc (.cells #[.int .i64 ka, .int .i64 ia, .string sa, .int .i64 kb, .int .i64 ib, .string sb, .int .i64 kc, .int .i64 ic, .string sc] 23)) := by repeat (first | exact Below.refl _ _ | refine Below.alloc ?_ (by simp <;> omega) _)
  revert B0 B1 B2 B3 hw0
  generalize ((((w.alloc (.cells #[.int .i64 ka, .int .i64 ia, .string sa] 23)).alloc (.cells #[.int .i64 kb, .int .i64 ib, .string sb] 23)).alloc (.cells #[.int .i64 kc, .int .i64 ic, .string sc] 23)).alloc (.cells #[.int .i64 ka, .int .i64 ia, .string sa, .int .i64 kb, .int .i64 ib, .string sb, .int .i64 kc, .int .i64 ic, .string sc] 23)) = W3
  intro B0 B1 B2 B3 hw0
  have z00 := B0.cell 0
  have z01 := B0.cell 1
  have z02 := B0.cell 2
  have z10 := B1.cell 0
  have z11 := B1.cell 1
  have z12 := B1.cell 2
  have z20 := B2.cell 0
  have z21 := B2.cell 1
  have z22 := B2.cell 2
  have q0 := B3.cell 0
  have q1 := B3.cell 1
  have q2 := B3.cell 2
  have q3 := B3.cell 3
  have q4 := B3.cell 4
  have q5 := B3.cell 5
  have q6 := B3.cell 6
  have q7 := B3.cell 7
  have q8 := B3.cell 8
  simp only [List.getElem?_toArray, List.getElem?_cons_zero, List.getElem?_cons_succ] at z00 z01 z02 z10 z11 z12 z20 z21 z22 q0 q1 q2 q3 q4 q5 q6 q7 q8
  have hsz := Lib.hid B3.lt
  have HW0 := Lib.hid hw0
  clear B0 B1 B2 B3 hw0
  go_loopw [17] (fun i wr => ∃ j : Nat, j ≤ 3 ∧ i = .int .i64 j ∧ Below W3.heap.size W3 wr ∧ Hid (0 < j → Good ka ia sa) ∧ Hid (1 < j → Good kb ib sb) ∧ Hid (2 < j → Good kc ic sc)) (fun i _ => 3 - (intOf i).toNat)
  case atStart => exact ⟨0, by omega, rfl, Below.refl _ _, fun h => absurd h (by omega), fun h => absurd h (by omega), fun h => absurd h (by omega)⟩
  case round =>
    obtain ⟨j, hj, rfl, hwr, g1, g2, g3⟩ := hrel
    have hwrs := hwr.size
    replace z00 := cell_later hwr z00; replace z01 := cell_later hwr z01; replace z02 := cell_later hwr z02; replace z10 := cell_later hwr z10; replace z11 := cell_later hwr z11; replace z12 := cell_later hwr z12; replace z20 := cell_later hwr z20; replace z21 := cell_later hwr z21; replace z22 := cell_later hwr z22; replace q0 := cell_later hwr q0; replace q1 := cell_later hwr q1; replace q2 := cell_later hwr q2; replace q3 := cell_later hwr q3; replace q4 := cell_later hwr q4; replace q5 := cell_later hwr q5; replace q6 := cell_later hwr q6; replace q7 := cell_later hwr q7; replace q8 := cell_later hwr q8
    by_cases hj3 : j = 3
    · subst hj3
      as_aux_lemma =>
        obtain ⟨rfl, ga⟩ := g1.out (by omega)
        obtain ⟨rfl, gb⟩ := g2.out (by omega)
        obtain ⟨rfl, gc⟩ := g3.out (by omega)
        have Ga : Hid (GP (ka, ia)) := ⟨rfl, ga⟩
        have Gb : Hid (GP (kb, ib)) := ⟨rfl, gb⟩
        have Gc : Hid (GP (kc, ic)) := ⟨rfl, gc⟩
        have l1 := law_comm (ka, ia) (kb, ib) Ga.out Gb.out
        have l2 := law_assoc (ka, ia) (kb, ib) (kc, ic) Ga.out Gb.out Gc.out
        have E1 := eq_true_of l1.1
        have E2 := eq_true_of l1.2.1
        have E3 := eq_true_of l2.1
        have E4 := eq_true_of l1.2.2.1
        have E5 := eq_true_of l1.2.2.2.1
        have E6 := eq_true_of l2.2
        have E7 := eq_true_of l1.2.2.2.2
        simp only at E1 E2 E3 E4 E5 E6 E7
        clear l1 l2 ga gb gc g1 g2 g3 C1 C2 C3 hwrs q0 q1 q2 q3 q4 q5 q6 q7 q8
        have HWR := Lib.hid hwr
        have HSZ := Lib.hid (Below.size HW0.out)
        go_wp2_with fail
        have y00 : ∀ n : Kept wr, n.w.cell? ⟨w.heap.size, 0, none⟩ = some (.int .i64 ka) := Kept.cell z00; have y01 : ∀ n : Kept wr, n.w.cell? ⟨w.heap.size, 1, none⟩ = some (.int .i64 ia) := Kept.cell z01; have y02 : ∀ n : Kept wr, n.w.cell? ⟨w.heap.size, 2, none⟩ = some (.string noText) := Kept.cell z02; have y10 : ∀ n : Kept wr, n.w.cell? ⟨w.heap.size + 1, 0, none⟩ = some (.int .i64 kb) := Kept.cell z10; have y11 : ∀ n : Kept wr, n.w.cell? ⟨w.heap.size + 1, 1, none⟩ = some (.int .i64 ib) := Kept.cell z11; have y12 : ∀ n : Kept wr, n.w.cell? ⟨w.heap.size + 1, 2, none⟩ = some (.string noText) := Kept.cell z12; have y20 : ∀ n : Kept wr, n.w.cell? ⟨w.heap.size + 1 + 1, 0, none⟩ = some (.int .i64 kc) := Kept.cell z20; have y21 : ∀ n : Kept wr, n.w.cell? ⟨w.heap.size + 1 + 1, 1, none⟩ = some (.int .i64 ic) := Kept.cell z21; have y22 : ∀ n : Kept wr, n.w.cell? ⟨w.heap.size + 1 + 1, 2, none⟩ = some (.string noText) := Kept.cell z22
        clear z00 z01 z02 z10 z11 z12 z20 z21 z22 hwr
        simp only [List.append_eq, List.cons_append, List.nil_append]
        refine wp_region_kept (by kernel_rfl) (by kernel_rfl) ?_
        repeat (go_big_quiet_step ((first
          | (go_at_call 18; (first | (with_reducible exact Calls.kept (cloAnd (ka, ia) (kb, ib) _ Ga Gb)) | (with_reducible exact Calls.kept (cloAnd (kb, ib) (ka, ia) _ Gb Ga)) | (with_reducible exact Calls.kept (cloAnd (kb, ib) (kc, ic) _ Gb Gc)) | (with_reducible exact Calls.kept (cloAnd (ka, ia) (andP (kb, ib) (kc, ic)) _ Ga (Lib.hid (Gb.out.and Gc.out)))) | (with_reducible exact Calls.kept (cloAnd (andP (ka, ia) (kb, ib)) (kc, ic) _ (Lib.hid (Ga.out.and Gb.out)) Gc)) | (with_reducible exact Calls.kept (cloAnd (ka, ia) (orP (kb, ib) (kc, ic)) _ Ga (Lib.hid (Gb.out.or Gc.out)))) | (with_reducible exact Calls.kept (cloAnd (ka, ia) (kc, ic) _ Ga Gc)) | (with_reducible exact Calls.kept (cloAnd (ka, ia) (ka, ia) _ Ga Ga))))
          | (go_at_call 19; (first | (with_reducible exact Calls.kept (cloOr (ka, ia) (kb, ib) _ Ga Gb)) | (with_reducible exact Calls.kept (cloOr (kb, ib) (ka, ia) _ Gb Ga)) | (with_reducible exact Calls.kept (cloOr (notP (ka, ia)) (notP (kb, ib)) _ (Lib.hid Ga.out.not) (Lib.hid Gb.out.not))) | (with_reducible exact Calls.kept (cloOr (kb, ib) (kc, ic) _ Gb Gc)) | (with_reducible exact Calls.kept (cloOr (andP (ka, ia) (kb, ib)) (andP (ka, ia) (kc, ic)) _ (Lib.hid (Ga.out.and Gb.out)) (Lib.hid (Ga.out.and Gc.out))))))
          | (go_at_call 20; (first | (with_reducible exact Calls.kept (cloNot (andP (ka, ia) (kb, ib)) _ (Lib.hid (Ga.out.and Gb.out)))) | (with_reducible exact Calls.kept (cloNot (ka, ia) _ Ga)) | (with_reducible exact Calls.kept (cloNot (kb, ib) _ Gb)) | (with_reducible exact Calls.kept (cloNot (notP (ka, ia)) _ (Lib.hid Ga.out.not))))))))
        refine wpQuiet_nil ?_
        intro _ hw'
        obtain ⟨nk, hw''⟩ := hw'
        subst hw''
        go_wp2
        go_ret
        exact ⟨rfl, Below.trans HW0.out ((HWR.out.trans (nk.h.mono (Below.size HWR.out))).mono HSZ.out)⟩
    · have hj4 : j = 0 ∨ j = 1 ∨ j = 2 := by omega
      rcases hj4 with rfl | rfl | rfl
      · as_aux_lemma =>
          rcases C1.out with ⟨hg, hk, hr⟩ | ⟨n0, n1⟩ | ⟨hk, hr⟩
          · have HR := Lib.hid hr
            clear hr
            have HG := Lib.hid hg
            clear hg
            rcases hk with rfl | rfl
            all_goals
              go_wp2_with (go_at_call 10; (with_reducible refine (HR.out _).mono ?_); rintro e w1 ⟨rfl, hb⟩)
              go_roundw
              case rel => exact ⟨1, by omega, by go_num, Below.trans (hwr.alloc (by omega) _) (hb.mono (by simp <;> omega)), fun _ => HG.out, fun h => absurd h (by omega), fun h => absurd h (by omega)⟩
              case measure => simp [intOf]
          · have m0 : (ka != 0) = true := by simpa using n0
            have m1 : (ka != 1) = true := by simpa using n1
            have m2 : (ka == 0) = false := by simpa using n0
            have m3 : (ka == 1) = false := by simpa using n1
            clear n0 n1
            go_wp2
            go_ret
            exact ⟨rfl, Below.trans HW0.out ((hwr.alloc (by omega) _).mono (Below.size HW0.out))⟩
          · have HR := Lib.hid hr
            clear hr
            rcases hk with rfl | rfl
            all_goals
              go_wp2_with (go_at_call 10; (with_reducible refine (HR.out _).mono ?_); rintro e w1 ⟨rfl, hb⟩)
              go_ret
              exact ⟨rfl, Below.trans HW0.out ((Below.trans (hwr.alloc (by omega) _) (hb.mono (by simp <;> omega))).mono (Below.size HW0.out))⟩
      · as_aux_lemma =>
          rcases C2.out with ⟨hg, hk, hr⟩ | ⟨n0, n1⟩ | ⟨hk, hr⟩
          · have HR := Lib.hid hr
            clear hr
            have HG := Lib.hid hg
            clear hg
            rcases hk with rfl | rfl
            all_goals
              go_wp2_with (go_at_call 10; (with_reducible refine (HR.out _).mono ?_); rintro e w1 ⟨rfl, hb⟩)
              go_roundw
              case rel => exact ⟨2, by omega, by go_num, Below.trans (hwr.alloc (by omega) _) (hb.mono (by simp <;> omega)), fun _ => g1.out (by omega), fun _ => HG.out, fun h => absurd h (by omega)⟩
              case measure => simp [intOf]
          · have m0 : (kb != 0) = true := by simpa using n0
            have m1 : (kb != 1) = true := by simpa using n1
            have m2 : (kb == 0) = false := by simpa using n0
            have m3 : (kb == 1) = false := by simpa using n1
            clear n0 n1
            go_wp2
            go_ret
            exact ⟨rfl, Below.trans HW0.out ((hwr.alloc (by omega) _).mono (Below.size HW0.out))⟩
          · have HR := Lib.hid hr
            clear hr
            rcases hk with rfl | rfl
            all_goals
              go_wp2_with (go_at_call 10; (with_reducible refine (HR.out _).mono ?_); rintro e w1 ⟨rfl, hb⟩)
              go_ret
              exact ⟨rfl, Below.trans HW0.out ((Below.trans (hwr.alloc (by omega) _) (hb.mono (by simp <;> omega))).mono (Below.size HW0.out))⟩
      · as_aux_lemma =>
          rcases C3.out with ⟨hg, hk, hr⟩ | ⟨n0, n1⟩ | ⟨hk, hr⟩
          · have HR := Lib.hid hr
            clear hr
            have HG := Lib.hid hg
            clear hg
            rcases hk with rfl | rfl
            all_goals
              go_wp2_with (go_at_call 10; (with_reducible refine (HR.out _).mono ?_); rintro e w1 ⟨rfl, hb⟩)
              go_roundw
              case rel => exact ⟨3, by omega, by go_num, Below.trans (hwr.alloc (by omega) _) (hb.mono (by simp <;> omega)), fun _ => g1.out (by omega), fun _ => g2.out (by omega), fun _ => HG.out⟩
              case measure => simp [intOf]
          · have m0 : (kc != 0) = true := by simpa using n0
            have m1 : (kc != 1) = true := by simpa using n1
            have m2 : (kc == 0) = false := by simpa using n0
            have m3 : (kc == 1) = false := by simpa using n1
            clear n0 n1
            go_wp2
            go_ret
            exact ⟨rfl, Below.trans HW0.out ((hwr.alloc (by omega) _).mono (Below.size HW0.out))⟩
          · have HR := Lib.hid hr
            clear hr
            rcases hk with rfl | rfl
            all_goals
              go_wp2_with (go_at_call 10; (with_reducible refine (HR.out _).mono ?_); rintro e w1 ⟨rfl, hb⟩)
              go_ret
              exact ⟨rfl, Below.trans HW0.out ((Below.trans (hwr.alloc (by omega) _) (hb.mono (by simp <;> omega))).mono (Below.size HW0.out))⟩

end Go.Proofs.YtkobjlmnbfkgaaaDoor
