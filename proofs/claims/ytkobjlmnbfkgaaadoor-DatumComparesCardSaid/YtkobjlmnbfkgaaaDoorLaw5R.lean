/-
  The law DatumCompares at a value that may not be; Apply at the six comparisons, the tables of unicode/utf8 laid.
-/
import Derived.Test.YtkobjlmnbfkgaaaDoorLaw5Base
import Derived.Test.YtkobjlmnbfkgaaaDoorAppCT
import Derived.Test.YtkobjlmnbfkgaaaDoorAppDT
import Derived.Test.YtkobjlmnbfkgaaaDoorRefRightW
namespace Go.Proofs.YtkobjlmnbfkgaaaDoor
open Go.RowKit

theorem ordI_three (a b : Int) : ordI a b = -1 ∨ ordI a b = 0 ∨ ordI a b = 1 := by
  rcases ordI_cases a b with ⟨_, h⟩ | ⟨_, h⟩ | ⟨_, h⟩ <;> simp [h]

theorem cmpN_cases (k1 i1 k2 i2 : Int) : cmpN k1 i1 k2 i2 = -1 ∨ cmpN k1 i1 k2 i2 = 0 ∨ cmpN k1 i1 k2 i2 = 1 := by
  unfold cmpN
  split
  · exact ordI_three _ _
  · split
    · split
      · exact ordI_three _ _
      · exact ordI_three _ _
    · split
      · exact ordI_three _ _
      · exact ordI_three _ _

theorem applies_any (k1 i1 : Int) (s1 : ByteArray) (k2 i2 : Int) (s2 : ByteArray) (K I E : Int) (j b : Nat) (W : World) (hj : j < 6) (hT : Tabs W) (hr1 : rightD ⟨k1, i1, s1⟩ = true) (hr2 : rightD ⟨k2, i2, s2⟩ = true)
    (HC : ∀ w : World, Calls Tryd.prog 42 #[.int .i64 (7 + (j : Int)), .agg #[.int .i64 k1, .int .i64 i1, .string s1], .agg #[.int .i64 k2, .int .i64 i2, .string s2]] w (ResPost K I E w))
    (hB : Blk W b #[.int .i64 k1, .int .i64 i1, .string s1, .int .i64 k2, .int .i64 i2, .string s2] 23) :
    Calls Tryd.prog 15 #[.int .i64 (7 + (j : Int)), .slice (some ⟨b, 0, none⟩) 2 2] W (ResPost K I E W) := by
  have HR1 : Hid (∀ w : World, Tabs w → Calls Tryd.prog 9 #[.agg #[.int .i64 k1, .int .i64 i1, .string s1]] w (RightPost true w)) := fun w h => hr1 ▸ right_any k1 i1 s1 w h
  have HR2 : Hid (∀ w : World, Tabs w → Calls Tryd.prog 9 #[.agg #[.int .i64 k2, .int .i64 i2, .string s2]] w (RightPost true w)) := fun w h => hr2 ▸ right_any k2 i2 s2 w h
  rcases (show j = 0 ∨ j = 1 ∨ j = 2 ∨ j = 3 ∨ j = 4 ∨ j = 5 by omega) with rfl | rfl | rfl | rfl | rfl | rfl
  · exact apply_7_tabs k1 i1 s1 k2 i2 s2 K I E b W hT HR1 HR2 HC (hB.cell 0) (hB.cell 1) (hB.cell 2) (hB.cell 3) (hB.cell 4) (hB.cell 5)
  · exact apply_8_tabs k1 i1 s1 k2 i2 s2 K I E b W hT HR1 HR2 HC (hB.cell 0) (hB.cell 1) (hB.cell 2) (hB.cell 3) (hB.cell 4) (hB.cell 5)
  · exact apply_9_tabs k1 i1 s1 k2 i2 s2 K I E b W hT HR1 HR2 HC (hB.cell 0) (hB.cell 1) (hB.cell 2) (hB.cell 3) (hB.cell 4) (hB.cell 5)
  · exact apply_10_tabs k1 i1 s1 k2 i2 s2 K I E b W hT HR1 HR2 HC (hB.cell 0) (hB.cell 1) (hB.cell 2) (hB.cell 3) (hB.cell 4) (hB.cell 5)
  · exact apply_11_tabs k1 i1 s1 k2 i2 s2 K I E b W hT HR1 HR2 HC (hB.cell 0) (hB.cell 1) (hB.cell 2) (hB.cell 3) (hB.cell 4) (hB.cell 5)
  · exact apply_12_tabs k1 i1 s1 k2 i2 s2 K I E b W hT HR1 HR2 HC (hB.cell 0) (hB.cell 1) (hB.cell 2) (hB.cell 3) (hB.cell 4) (hB.cell 5)

set_option maxHeartbeats 4000000 in
set_option maxRecDepth 100000 in
theorem compares_wrong1 (k1 i1 : Int) (s1 : ByteArray) (k2 i2 : Int) (s2 : ByteArray) (w : World) (hr : rightD ⟨k1, i1, s1⟩ = false) :
    Calls Tryd.prog 5 #[.agg #[.int .i64 k1, .int .i64 i1, .string s1], .agg #[.int .i64 k2, .int .i64 i2, .string s2]] w fun e w' => e = .returned (.bool true) ∧ Below w.heap.size w w' := by
  have HR : Hid (∀ W, Calls Tryd.prog 10 #[.agg #[.int .i64 k1, .int .i64 i1, .string s1]] W (RightPost false W)) := fun W => hr ▸ refRight_any k1 i1 s1 W
  clear hr
  go_enter Tryd.func5, Tryd.ntmps5
  go_wp2_with (go_at_call 10; refine (HR.out _).mono ?_; rintro e w1 ⟨rfl, hb1⟩)
  go_ret
  exact ⟨rfl, (((Below.refl _ _).alloc (Nat.le_refl _) _).alloc (by simp) _).trans (hb1.mono (by simp <;> omega))⟩

set_option maxHeartbeats 4000000 in
set_option maxRecDepth 100000 in
theorem compares_wrong2 (k1 i1 : Int) (s1 : ByteArray) (k2 i2 : Int) (s2 : ByteArray) (w : World) (hr1 : rightD ⟨k1, i1, s1⟩ = true) (hr : rightD ⟨k2, i2, s2⟩ = false) :
    Calls Tryd.prog 5 #[.agg #[.int .i64 k1, .int .i64 i1, .string s1], .agg #[.int .i64 k2, .int .i64 i2, .string s2]] w fun e w' => e = .returned (.bool true) ∧ Below w.heap.size w w' := by
  have HR1 : Hid (∀ W, Calls Tryd.prog 10 #[.agg #[.int .i64 k1, .int .i64 i1, .string s1]] W (RightPost true W)) := fun W => hr1 ▸ refRight_any k1 i1 s1 W
  have HR : Hid (∀ W, Calls Tryd.prog 10 #[.agg #[.int .i64 k2, .int .i64 i2, .string s2]] W (RightPost false W)) := fun W => hr ▸ refRight_any k2 i2 s2 W
  clear hr hr1
  have HB0 : Hid (Blk ((w.alloc (.cells #[.int .i64 k1, .int .i64 i1, .string s1] 23)).alloc (.cells #[.int .i64 k2, .int .i64 i2, .string s2] 23)) (w.heap.size + 1) #[.int .i64 k2, .int .i64 i2, .string s2] 23) := by
    have := Blk.new (w.alloc (.cells #[.int .i64 k1, .int .i64 i1, .string s1] 23)) #[.int .i64 k2, .int .i64 i2, .string s2] 23
    simpa [Hid] using this
  have HB : Hid (Below w.heap.size w ((w.alloc (.cells #[.int .i64 k1, .int .i64 i1, .string s1] 23)).alloc (.cells #[.int .i64 k2, .int .i64 i2, .string s2] 23))) := ((Below.refl _ _).alloc (Nat.le_refl _) _).alloc (by simp) _
  go_enter Tryd.func5, Tryd.ntmps5
  go_wp2_with fail
  refine (HR1.out _).mono ?_
  rintro e w1 ⟨rfl, hb1⟩
  have hB1 := HB0.out.below hb1
  have hc1 := HB.out.trans (hb1.mono HB.out.size)
  have b0 := hB1.cell 0; have b1 := hB1.cell 1; have b2 := hB1.cell 2
  simp only [List.getElem?_toArray, List.getElem?_cons_zero, List.getElem?_cons_succ] at b0 b1 b2
  go_wp2_with fail
  refine (HR.out _).mono ?_
  rintro e w2 ⟨rfl, hb2⟩
  go_wp2
  go_ret
  exact ⟨rfl, hc1.trans (hb2.mono hc1.size)⟩

end Go.Proofs.YtkobjlmnbfkgaaaDoor
