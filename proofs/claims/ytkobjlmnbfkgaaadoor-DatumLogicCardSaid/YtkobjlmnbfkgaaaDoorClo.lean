/-
  The contracts of DatumLogic's three closures: AND, OR, NOT of NULLs and BOOLs.
-/
import Derived.Test.YtkobjlmnbfkgaaaDoorAppA
import Derived.Test.YtkobjlmnbfkgaaaDoorAppE
import Derived.Test.YtkobjlmnbfkgaaaDoorLogic2
namespace Go.Proofs.YtkobjlmnbfkgaaaDoor
open Go.RowKit

theorem right_post (k i : Int) (h : okSmall k i) : ∀ w : World, Calls Tryd.prog 9 #[.agg #[.int .i64 k, .int .i64 i, .string noText]] w (RightPost true w) :=
  fun w => (right_yes k i w h).mono fun e w' ⟨he, hw⟩ => ⟨he, by rw [hw]; exact (Below.refl _ _).alloc (Nat.le_refl _) _⟩

/-- A value of kind K and number I comes back; memory of its own alone is made. -/
def ValPost (K I : Int) (w : World) (e : Ending) (w' : World) : Prop :=
  e = .returned (.agg #[.int .i64 K, .int .i64 I, .string noText]) ∧ Below w.heap.size w w'

theorem Blk.new' {W : World} {cs : Array Value} {t : TypeId} {n : Nat} (h : W.heap.size = n) : Blk (W.alloc (.cells cs t)) n cs t := h ▸ Blk.new W cs t

set_option maxHeartbeats 4000000 in
set_option maxRecDepth 100000 in
theorem clo_and (k1 i1 k2 i2 : Int) (w : World) (h1 : okSmall k1 i1) (h2 : okSmall k2 i2) :
    Calls Tryd.prog 18 #[.agg #[.int .i64 k1, .int .i64 i1, .string noText], .agg #[.int .i64 k2, .int .i64 i2, .string noText]] w (ValPost (joinR k1 i1 k2 i2 0).1 (joinR k1 i1 k2 i2 0).2.1 w) := by
  have HR1 := Lib.hid (right_post k1 i1 h1)
  have HR2 := Lib.hid (right_post k2 i2 h2)
  have HC : Hid (∀ w : World, Calls Tryd.prog 36 #[.agg #[.int .i64 k1, .int .i64 i1, .string noText], .agg #[.int .i64 k2, .int .i64 i2, .string noText], .int .i64 0] w (ResPost (joinR k1 i1 k2 i2 0).1 (joinR k1 i1 k2 i2 0).2.1 (joinR k1 i1 k2 i2 0).2.2 w)) := Lib.hid (fun w => join_and k1 i1 noText k2 i2 noText w)
  clear h1 h2
  generalize (joinR k1 i1 k2 i2 0).1 = K at *
  generalize (joinR k1 i1 k2 i2 0).2.1 = I at *
  generalize (joinR k1 i1 k2 i2 0).2.2 = E at *
  go_enter Tryd.func18, Tryd.ntmps18
  go_wp2_with fail
  have hB := Lib.hid (Blk.new' (W := ((w.alloc (.cells #[.int .i64 k1, .int .i64 i1, .string noText] 23)).alloc (.cells #[.int .i64 k2, .int .i64 i2, .string noText] 23)).alloc (.cells #[.int .i64 0, .int .i64 0, .string noText] 23)) (cs := #[.int .i64 k1, .int .i64 i1, .string noText, .int .i64 k2, .int .i64 i2, .string noText]) (t := 23) (n := w.heap.size + 1 + 1 + 1) (by simp))
  have hR := Lib.hid (Blk.alloc (Blk.new' (W := (w.alloc (.cells #[.int .i64 k1, .int .i64 i1, .string noText] 23)).alloc (.cells #[.int .i64 k2, .int .i64 i2, .string noText] 23)) (cs := #[.int .i64 0, .int .i64 0, .string noText]) (t := 23) (n := w.heap.size + 1 + 1) (by simp)) (.cells #[.int .i64 k1, .int .i64 i1, .string noText, .int .i64 k2, .int .i64 i2, .string noText] 23))
  refine (apply_13 k1 i1 noText k2 i2 noText K I E _ _ HR1 HR2 HC (hB.out.cell 0) (hB.out.cell 1) (hB.out.cell 2) (hB.out.cell 3) (hB.out.cell 4) (hB.out.cell 5)).mono ?_
  rintro e w1 ⟨rfl, hb⟩
  have hw1 : Below w.heap.size w w1 := Below.trans (((((Below.refl _ _).alloc (Nat.le_refl _) _).alloc (by simp) _).alloc (by simp <;> omega) _).alloc (by simp <;> omega) _) (hb.mono (by simp <;> omega))
  have hR1 := hR.out.below hb
  have r0 := hR1.cell 0
  have r1 := hR1.cell 1
  have r2 := hR1.cell 2
  have f0 := hR1.frozen 0
  have f1 := hR1.frozen 1
  have f2 := hR1.frozen 2
  have hlt : w.heap.size + 1 + 1 < w1.heap.size := hR1.lt
  simp only [List.getElem?_toArray, List.getElem?_cons_zero, List.getElem?_cons_succ] at r0 r1 r2
  have HW := Lib.hid hw1
  clear hw1 hb hR1 hR hB
  go_wp2
  refine bodyPost_ret (v := .agg #[.int .i64 K, .int .i64 I, .string noText]) ?_ rfl ⟨rfl, ?_⟩
  · simp [results, Tryd.results18, go_sem, r0, r1, r2, hlt]
  · exact ((((HW.out.setCell (by simp <;> omega) _).setCell (by simp <;> omega) _).setCell (by simp <;> omega) _).alloc (by simp <;> omega) _)

set_option maxHeartbeats 4000000 in
set_option maxRecDepth 100000 in
theorem clo_or (k1 i1 k2 i2 : Int) (w : World) (h1 : okSmall k1 i1) (h2 : okSmall k2 i2) :
    Calls Tryd.prog 19 #[.agg #[.int .i64 k1, .int .i64 i1, .string noText], .agg #[.int .i64 k2, .int .i64 i2, .string noText]] w (ValPost (joinR k1 i1 k2 i2 1).1 (joinR k1 i1 k2 i2 1).2.1 w) := by
  have HR1 := Lib.hid (right_post k1 i1 h1)
  have HR2 := Lib.hid (right_post k2 i2 h2)
  have HC : Hid (∀ w : World, Calls Tryd.prog 36 #[.agg #[.int .i64 k1, .int .i64 i1, .string noText], .agg #[.int .i64 k2, .int .i64 i2, .string noText], .int .i64 1] w (ResPost (joinR k1 i1 k2 i2 1).1 (joinR k1 i1 k2 i2 1).2.1 (joinR k1 i1 k2 i2 1).2.2 w)) := Lib.hid (fun w => join_or k1 i1 noText k2 i2 noText w)
  clear h1 h2
  generalize (joinR k1 i1 k2 i2 1).1 = K at *
  generalize (joinR k1 i1 k2 i2 1).2.1 = I at *
  generalize (joinR k1 i1 k2 i2 1).2.2 = E at *
  go_enter Tryd.func19, Tryd.ntmps19
  go_wp2_with fail
  have hB := Lib.hid (Blk.new' (W := ((w.alloc (.cells #[.int .i64 k1, .int .i64 i1, .string noText] 23)).alloc (.cells #[.int .i64 k2, .int .i64 i2, .string noText] 23)).alloc (.cells #[.int .i64 0, .int .i64 0, .string noText] 23)) (cs := #[.int .i64 k1, .int .i64 i1, .string noText, .int .i64 k2, .int .i64 i2, .string noText]) (t := 23) (n := w.heap.size + 1 + 1 + 1) (by simp))
  have hR := Lib.hid (Blk.alloc (Blk.new' (W := (w.alloc (.cells #[.int .i64 k1, .int .i64 i1, .string noText] 23)).alloc (.cells #[.int .i64 k2, .int .i64 i2, .string noText] 23)) (cs := #[.int .i64 0, .int .i64 0, .string noText]) (t := 23) (n := w.heap.size + 1 + 1) (by simp)) (.cells #[.int .i64 k1, .int .i64 i1, .string noText, .int .i64 k2, .int .i64 i2, .string noText] 23))
  refine (apply_14 k1 i1 noText k2 i2 noText K I E _ _ HR1 HR2 HC (hB.out.cell 0) (hB.out.cell 1) (hB.out.cell 2) (hB.out.cell 3) (hB.out.cell 4) (hB.out.cell 5)).mono ?_
  rintro e w1 ⟨rfl, hb⟩
  have hw1 : Below w.heap.size w w1 := Below.trans (((((Below.refl _ _).alloc (Nat.le_refl _) _).alloc (by simp) _).alloc (by simp <;> omega) _).alloc (by simp <;> omega) _) (hb.mono (by simp <;> omega))
  have hR1 := hR.out.below hb
  have r0 := hR1.cell 0
  have r1 := hR1.cell 1
  have r2 := hR1.cell 2
  have f0 := hR1.frozen 0
  have f1 := hR1.frozen 1
  have f2 := hR1.frozen 2
  have hlt : w.heap.size + 1 + 1 < w1.heap.size := hR1.lt
  simp only [List.getElem?_toArray, List.getElem?_cons_zero, List.getElem?_cons_succ] at r0 r1 r2
  have HW := Lib.hid hw1
  clear hw1 hb hR1 hR hB
  go_wp2
  refine bodyPost_ret (v := .agg #[.int .i64 K, .int .i64 I, .string noText]) ?_ rfl ⟨rfl, ?_⟩
  · simp [results, Tryd.results19, go_sem, r0, r1, r2, hlt]
  · exact ((((HW.out.setCell (by simp <;> omega) _).setCell (by simp <;> omega) _).setCell (by simp <;> omega) _).alloc (by simp <;> omega) _)

set_option maxHeartbeats 4000000 in
set_option maxRecDepth 100000 in
theorem clo_not (k1 i1 : Int) (w : World) (h1 : okSmall k1 i1) :
    Calls Tryd.prog 20 #[.agg #[.int .i64 k1, .int .i64 i1, .string noText]] w (ValPost (notR k1 i1).1 (notR k1 i1).2.1 w) := by
  have HR1 := Lib.hid (right_post k1 i1 h1)
  have HC : Hid (∀ w : World, Calls Tryd.prog 35 #[.agg #[.int .i64 k1, .int .i64 i1, .string noText]] w (ResPost (notR k1 i1).1 (notR k1 i1).2.1 (notR k1 i1).2.2 w)) := Lib.hid (fun w => not_any k1 i1 noText w)
  clear h1
  generalize (notR k1 i1).1 = K at *
  generalize (notR k1 i1).2.1 = I at *
  generalize (notR k1 i1).2.2 = E at *
  go_enter Tryd.func20, Tryd.ntmps20
  go_wp2_with fail
  have hB := Lib.hid (Blk.new' (W := (w.alloc (.cells #[.int .i64 k1, .int .i64 i1, .string noText] 23)).alloc (.cells #[.int .i64 0, .int .i64 0, .string noText] 23)) (cs := #[.int .i64 k1, .int .i64 i1, .string noText]) (t := 23) (n := w.heap.size + 1 + 1) (by simp))
  have hR := Lib.hid (Blk.alloc (Blk.new' (W := w.alloc (.cells #[.int .i64 k1, .int .i64 i1, .string noText] 23)) (cs := #[.int .i64 0, .int .i64 0, .string noText]) (t := 23) (n := w.heap.size + 1) (by simp)) (.cells #[.int .i64 k1, .int .i64 i1, .string noText] 23))
  refine (apply_2 k1 i1 noText K I E _ _ HR1 HC (hB.out.cell 0) (hB.out.cell 1) (hB.out.cell 2)).mono ?_
  rintro e w1 ⟨rfl, hb⟩
  have hw1 : Below w.heap.size w w1 := Below.trans ((((Below.refl _ _).alloc (Nat.le_refl _) _).alloc (by simp) _).alloc (by simp <;> omega) _) (hb.mono (by simp <;> omega))
  have hR1 := hR.out.below hb
  have r0 := hR1.cell 0
  have r1 := hR1.cell 1
  have r2 := hR1.cell 2
  have f0 := hR1.frozen 0
  have f1 := hR1.frozen 1
  have f2 := hR1.frozen 2
  have hlt : w.heap.size + 1 < w1.heap.size := hR1.lt
  simp only [List.getElem?_toArray, List.getElem?_cons_zero, List.getElem?_cons_succ] at r0 r1 r2
  have HW := Lib.hid hw1
  clear hw1 hb hR1 hR hB
  go_wp2
  refine bodyPost_ret (v := .agg #[.int .i64 K, .int .i64 I, .string noText]) ?_ rfl ⟨rfl, ?_⟩
  · simp [results, Tryd.results20, go_sem, r0, r1, r2, hlt]
  · exact ((((HW.out.setCell (by simp <;> omega) _).setCell (by simp <;> omega) _).setCell (by simp <;> omega) _).alloc (by simp <;> omega) _)

end Go.Proofs.YtkobjlmnbfkgaaaDoor
