/-
  The contract of the reference's read where a text stands.
-/
import Derived.Test.YtoikbdgbhgokaaaDoorRefRead
import Derived.RegionTactic
import Derived.ChangeAlike
import Derived.Deep.RegionWith
namespace Go.Proofs.YtoikbdgbhgokaaaDoor
open Go.RowKit

theorem Blk.setOther {w : World} {b b' : Nat} {cs : Array Value} {t : TypeId} (h : Blk w b cs t) (hne : b' ≠ b) (i : Nat) (u : Value) : Blk (w.setCell ⟨b', i, none⟩ u) b cs t := by
  unfold Blk at h ⊢
  simp [World.setCell, Array.getElem?_modify, hne, h]

set_option maxRecDepth 100000 in
set_option maxHeartbeats 4000000 in
theorem refRead_text_none (s : ByteArray) (k : Nat) (w : World) (h : k < s.size) (h0 : s[k] = 5) (hu : unesc (s.data.toList.drop (k + 1)) = none) (hs : s.size ≤ 140737488351232) :
    Calls Tryd.prog 33 #[.string s, .int .i64 k] w (ReadPost s.size none w) := by
  have hlk : k + 1 ≤ s.size := by omega
  have hb0 : (s[k].toNat : Int) = 5 := by rw [h0]; rfl
  have HEnd : Hid (∀ W, Calls Tryd.prog 52 #[.string s, .int .i64 ((k : Int) + 1)] W (EndPost s.size (unesc (s.data.toList.drop (k + 1))) W)) := fun W => refEnd_any s (k + 1) W hs (by omega)
  have HA : Hid (Blk ((w.alloc (.cells #[.int .i64 0, .int .i64 0, .string ⟨#[]⟩] 37)).alloc (.cells #[.int .i64 4, .int .i64 0, .string ⟨#[]⟩] 37)) (w.heap.size + 1) #[.int .i64 4, .int .i64 0, .string ⟨#[]⟩] 37) := by have := Blk.new (w.alloc (.cells #[.int .i64 0, .int .i64 0, .string ⟨#[]⟩] 37)) #[.int .i64 4, .int .i64 0, .string ⟨#[]⟩] 37; simpa [Hid] using this
  have HR : Hid (Blk ((w.alloc (.cells #[.int .i64 0, .int .i64 0, .string ⟨#[]⟩] 37)).alloc (.cells #[.int .i64 4, .int .i64 0, .string ⟨#[]⟩] 37)) w.heap.size #[.int .i64 0, .int .i64 0, .string ⟨#[]⟩] 37) := (Blk.new w #[.int .i64 0, .int .i64 0, .string ⟨#[]⟩] 37).alloc _
  have HB : Hid (Below w.heap.size w ((w.alloc (.cells #[.int .i64 0, .int .i64 0, .string ⟨#[]⟩] 37)).alloc (.cells #[.int .i64 4, .int .i64 0, .string ⟨#[]⟩] 37))) := ((Below.refl _ _).alloc (Nat.le_refl _) _).alloc (by simp) _
  have HZ : Hid (((w.alloc (.cells #[.int .i64 0, .int .i64 0, .string ⟨#[]⟩] 37)).alloc (.cells #[.int .i64 4, .int .i64 0, .string ⟨#[]⟩] 37)).heap.size = w.heap.size + 2) := by simp [Hid]
  rw [hu] at HEnd
  clear hu
  go_enter Tryd.func33, Tryd.ntmps33
  go_wp2_with (go_at_call 52; refine (HEnd.out _).mono ?_; rintro e w1 ⟨hb1, b5, rfl⟩; have hz1 := hb1.size; have hD := HA.out.below hb1; have hR := HR.out.below hb1; have hlD := hD.lt; have hlR := hR.lt; have c0 := hD.cell 0; have f0 := hD.frozen 0; have c1 := hD.cell 1; have f1 := hD.frozen 1; have c2 := hD.cell 2; have f2 := hD.frozen 2; simp only [List.getElem?_toArray, List.getElem?_cons_zero, List.getElem?_cons_succ] at c0 c1 c2; have d0 := hR.cell 0; have g0 := hR.frozen 0; have d1 := hR.cell 1; have g1 := hR.frozen 1; have d2 := hR.cell 2; have g2 := hR.frozen 2; simp only [List.getElem?_toArray, List.getElem?_cons_zero, List.getElem?_cons_succ] at d0 d1 d2)
  have hF := (((hR.setOther (b' := w.heap.size + 1) (by omega) 2 (.string b5)).set 0 (.int .i64 4)).set 1 (.int .i64 0)).set 2 (.string b5)
  refine bodyPost_ret (v := .tuple #[.agg #[.int .i64 4, .int .i64 0, .string b5], .int .i64 (-1)]) ?_ rfl ⟨?_, _, _, _, rfl⟩
  · have q0 := hF.cell 0; have q1 := hF.cell 1; have q2 := hF.cell 2
    simp [results, Tryd.results33, go_sem, q0, q1, q2]
  · exact ((((HB.out.trans (hb1.mono HB.out.size)).setCell (by simp) _).setCell (by simp) _).setCell (by simp) _).setCell (by simp) _

set_option maxRecDepth 100000 in
set_option maxHeartbeats 4000000 in
theorem refRead_text_true (s : ByteArray) (k : Nat) (w : World) (h : k < s.size) (h0 : s[k] = 5) (p : List UInt8 × List UInt8) (hu : unesc (s.data.toList.drop (k + 1)) = some p) (hr : rightD ⟨4, 0, ⟨p.1.toArray⟩⟩ = true) (hs : s.size ≤ 140737488351232) :
    Calls Tryd.prog 33 #[.string s, .int .i64 k] w (ReadPost s.size (some (⟨4, 0, ⟨p.1.toArray⟩⟩, p.2)) w) := by
  have hlk : k + 1 ≤ s.size := by omega
  have hb0 : (s[k].toNat : Int) = 5 := by rw [h0]; rfl
  have HEnd : Hid (∀ W, Calls Tryd.prog 52 #[.string s, .int .i64 ((k : Int) + 1)] W (EndPost s.size (unesc (s.data.toList.drop (k + 1))) W)) := fun W => refEnd_any s (k + 1) W hs (by omega)
  have HA : Hid (Blk ((w.alloc (.cells #[.int .i64 0, .int .i64 0, .string ⟨#[]⟩] 37)).alloc (.cells #[.int .i64 4, .int .i64 0, .string ⟨#[]⟩] 37)) (w.heap.size + 1) #[.int .i64 4, .int .i64 0, .string ⟨#[]⟩] 37) := by have := Blk.new (w.alloc (.cells #[.int .i64 0, .int .i64 0, .string ⟨#[]⟩] 37)) #[.int .i64 4, .int .i64 0, .string ⟨#[]⟩] 37; simpa [Hid] using this
  have HR : Hid (Blk ((w.alloc (.cells #[.int .i64 0, .int .i64 0, .string ⟨#[]⟩] 37)).alloc (.cells #[.int .i64 4, .int .i64 0, .string ⟨#[]⟩] 37)) w.heap.size #[.int .i64 0, .int .i64 0, .string ⟨#[]⟩] 37) := (Blk.new w #[.int .i64 0, .int .i64 0, .string ⟨#[]⟩] 37).alloc _
  have HB : Hid (Below w.heap.size w ((w.alloc (.cells #[.int .i64 0, .int .i64 0, .string ⟨#[]⟩] 37)).alloc (.cells #[.int .i64 4, .int .i64 0, .string ⟨#[]⟩] 37))) := ((Below.refl _ _).alloc (Nat.le_refl _) _).alloc (by simp) _
  have HZ : Hid (((w.alloc (.cells #[.int .i64 0, .int .i64 0, .string ⟨#[]⟩] 37)).alloc (.cells #[.int .i64 4, .int .i64 0, .string ⟨#[]⟩] 37)).heap.size = w.heap.size + 2) := by simp [Hid]
  have HRt : Hid (∀ W, Calls Tryd.prog 30 #[.agg #[.int .i64 4, .int .i64 0, .string ⟨p.1.toArray⟩]] W (RightPost true W)) := fun W => hr ▸ refRight_any 4 0 ⟨p.1.toArray⟩ W
  rw [hu] at HEnd
  clear hu hr
  obtain ⟨a, r⟩ := p
  simp only at HRt
  go_enter Tryd.func33, Tryd.ntmps33
  go_wp2_with (first
    | (go_at_call 52; refine (HEnd.out _).mono ?_; rintro e w1 ⟨hb1, hle, rfl⟩; have hz1 := hb1.size; have hD := HA.out.below hb1; have hR := HR.out.below hb1; have hlD := hD.lt; have hlR := hR.lt; have c0 := hD.cell 0; have f0 := hD.frozen 0; have c1 := hD.cell 1; have f1 := hD.frozen 1; have c2 := hD.cell 2; have f2 := hD.frozen 2; simp only [List.getElem?_toArray, List.getElem?_cons_zero, List.getElem?_cons_succ] at c0 c1 c2; have d0 := hR.cell 0; have g0 := hR.frozen 0; have d1 := hR.cell 1; have g1 := hR.frozen 1; have d2 := hR.cell 2; have g2 := hR.frozen 2; simp only [List.getElem?_toArray, List.getElem?_cons_zero, List.getElem?_cons_succ] at d0 d1 d2; have hle2 : ¬ (s.size : Int) - r.length < 0 := by simp only at hle; omega)
    | (go_at_call 30; refine (HRt.out _).mono ?_; rintro e w2 ⟨rfl, hb2⟩; have hz2 := hb2.size; have hD2 : Blk w2 (w.heap.size + 1) #[.int .i64 4, .int .i64 0, .string ⟨a.toArray⟩] 37 := (hD.set 2 (.string ⟨a.toArray⟩)).below hb2; have hR2 := (hR.setOther (b' := w.heap.size + 1) (by omega) 2 (.string ⟨a.toArray⟩)).below hb2; have hlD2 := hD2.lt; have hlR2 := hR2.lt; have c0 := hD2.cell 0; have f0 := hD2.frozen 0; have c1 := hD2.cell 1; have f1 := hD2.frozen 1; have c2 := hD2.cell 2; have f2 := hD2.frozen 2; simp only [List.getElem?_toArray, List.getElem?_cons_zero, List.getElem?_cons_succ] at c0 c1 c2; have d0 := hR2.cell 0; have g0 := hR2.frozen 0; have d1 := hR2.cell 1; have g1 := hR2.frozen 1; have d2 := hR2.cell 2; have g2 := hR2.frozen 2; simp only [List.getElem?_toArray, List.getElem?_cons_zero, List.getElem?_cons_succ] at d0 d1 d2))
  have hF := ((hR2.set 0 (.int .i64 4)).set 1 (.int .i64 0)).set 2 (.string ⟨a.toArray⟩)
  refine bodyPost_ret (v := .tuple #[.agg #[.int .i64 4, .int .i64 0, .string ⟨a.toArray⟩], .int .i64 ((s.size : Int) - r.length)]) ?_ rfl ⟨?_, hle, rfl⟩
  · have q0 := hF.cell 0; have q1 := hF.cell 1; have q2 := hF.cell 2
    simp [results, Tryd.results33, go_sem, q0, q1, q2]
  · exact ((((HB.out.trans (hb1.mono HB.out.size)).setCell (by simp) _).trans (hb2.mono (by simp <;> omega))).setCell (by simp) _).setCell (by simp) _ |>.setCell (by simp) _

set_option maxRecDepth 100000 in
set_option maxHeartbeats 4000000 in
theorem refRead_text_false (s : ByteArray) (k : Nat) (w : World) (h : k < s.size) (h0 : s[k] = 5) (p : List UInt8 × List UInt8) (hu : unesc (s.data.toList.drop (k + 1)) = some p) (hr : rightD ⟨4, 0, ⟨p.1.toArray⟩⟩ = false) (hs : s.size ≤ 140737488351232) :
    Calls Tryd.prog 33 #[.string s, .int .i64 k] w (ReadPost s.size none w) := by
  have hlk : k + 1 ≤ s.size := by omega
  have hb0 : (s[k].toNat : Int) = 5 := by rw [h0]; rfl
  have HEnd : Hid (∀ W, Calls Tryd.prog 52 #[.string s, .int .i64 ((k : Int) + 1)] W (EndPost s.size (unesc (s.data.toList.drop (k + 1))) W)) := fun W => refEnd_any s (k + 1) W hs (by omega)
  have HA : Hid (Blk ((w.alloc (.cells #[.int .i64 0, .int .i64 0, .string ⟨#[]⟩] 37)).alloc (.cells #[.int .i64 4, .int .i64 0, .string ⟨#[]⟩] 37)) (w.heap.size + 1) #[.int .i64 4, .int .i64 0, .string ⟨#[]⟩] 37) := by have := Blk.new (w.alloc (.cells #[.int .i64 0, .int .i64 0, .string ⟨#[]⟩] 37)) #[.int .i64 4, .int .i64 0, .string ⟨#[]⟩] 37; simpa [Hid] using this
  have HR : Hid (Blk ((w.alloc (.cells #[.int .i64 0, .int .i64 0, .string ⟨#[]⟩] 37)).alloc (.cells #[.int .i64 4, .int .i64 0, .string ⟨#[]⟩] 37)) w.heap.size #[.int .i64 0, .int .i64 0, .string ⟨#[]⟩] 37) := (Blk.new w #[.int .i64 0, .int .i64 0, .string ⟨#[]⟩] 37).alloc _
  have HB : Hid (Below w.heap.size w ((w.alloc (.cells #[.int .i64 0, .int .i64 0, .string ⟨#[]⟩] 37)).alloc (.cells #[.int .i64 4, .int .i64 0, .string ⟨#[]⟩] 37))) := ((Below.refl _ _).alloc (Nat.le_refl _) _).alloc (by simp) _
  have HZ : Hid (((w.alloc (.cells #[.int .i64 0, .int .i64 0, .string ⟨#[]⟩] 37)).alloc (.cells #[.int .i64 4, .int .i64 0, .string ⟨#[]⟩] 37)).heap.size = w.heap.size + 2) := by simp [Hid]
  have HRt : Hid (∀ W, Calls Tryd.prog 30 #[.agg #[.int .i64 4, .int .i64 0, .string ⟨p.1.toArray⟩]] W (RightPost false W)) := fun W => hr ▸ refRight_any 4 0 ⟨p.1.toArray⟩ W
  rw [hu] at HEnd
  clear hu hr
  obtain ⟨a, r⟩ := p
  simp only at HRt
  go_enter Tryd.func33, Tryd.ntmps33
  go_wp2_with (first
    | (go_at_call 52; refine (HEnd.out _).mono ?_; rintro e w1 ⟨hb1, hle, rfl⟩; have hz1 := hb1.size; have hD := HA.out.below hb1; have hR := HR.out.below hb1; have hlD := hD.lt; have hlR := hR.lt; have c0 := hD.cell 0; have f0 := hD.frozen 0; have c1 := hD.cell 1; have f1 := hD.frozen 1; have c2 := hD.cell 2; have f2 := hD.frozen 2; simp only [List.getElem?_toArray, List.getElem?_cons_zero, List.getElem?_cons_succ] at c0 c1 c2; have d0 := hR.cell 0; have g0 := hR.frozen 0; have d1 := hR.cell 1; have g1 := hR.frozen 1; have d2 := hR.cell 2; have g2 := hR.frozen 2; simp only [List.getElem?_toArray, List.getElem?_cons_zero, List.getElem?_cons_succ] at d0 d1 d2; have hle2 : ¬ (s.size : Int) - r.length < 0 := by simp only at hle; omega)
    | (go_at_call 30; refine (HRt.out _).mono ?_; rintro e w2 ⟨rfl, hb2⟩; have hz2 := hb2.size; have hD2 : Blk w2 (w.heap.size + 1) #[.int .i64 4, .int .i64 0, .string ⟨a.toArray⟩] 37 := (hD.set 2 (.string ⟨a.toArray⟩)).below hb2; have hR2 := (hR.setOther (b' := w.heap.size + 1) (by omega) 2 (.string ⟨a.toArray⟩)).below hb2; have hlD2 := hD2.lt; have hlR2 := hR2.lt; have c0 := hD2.cell 0; have f0 := hD2.frozen 0; have c1 := hD2.cell 1; have f1 := hD2.frozen 1; have c2 := hD2.cell 2; have f2 := hD2.frozen 2; simp only [List.getElem?_toArray, List.getElem?_cons_zero, List.getElem?_cons_succ] at c0 c1 c2; have d0 := hR2.cell 0; have g0 := hR2.frozen 0; have d1 := hR2.cell 1; have g1 := hR2.frozen 1; have d2 := hR2.cell 2; have g2 := hR2.frozen 2; simp only [List.getElem?_toArray, List.getElem?_cons_zero, List.getElem?_cons_succ] at d0 d1 d2))
  have hF := ((hR2.set 0 (.int .i64 4)).set 1 (.int .i64 0)).set 2 (.string ⟨a.toArray⟩)
  refine bodyPost_ret (v := .tuple #[.agg #[.int .i64 4, .int .i64 0, .string ⟨a.toArray⟩], .int .i64 (-1)]) ?_ rfl ⟨?_, _, _, _, rfl⟩
  · have q0 := hF.cell 0; have q1 := hF.cell 1; have q2 := hF.cell 2
    simp [results, Tryd.results33, go_sem, q0, q1, q2]
  · exact ((((HB.out.trans (hb1.mono HB.out.size)).setCell (by simp) _).trans (hb2.mono (by simp <;> omega))).setCell (by simp) _).setCell (by simp) _ |>.setCell (by simp) _

set_option maxRecDepth 100000 in
set_option maxHeartbeats 4000000 in
theorem refRead_bytes_none (s : ByteArray) (k : Nat) (w : World) (h : k < s.size) (h0 : s[k] = 6) (hu : unesc (s.data.toList.drop (k + 1)) = none) (hs : s.size ≤ 140737488351232) :
    Calls Tryd.prog 33 #[.string s, .int .i64 k] w (ReadPost s.size none w) := by
  have hlk : k + 1 ≤ s.size := by omega
  have hb0 : (s[k].toNat : Int) = 6 := by rw [h0]; rfl
  have HEnd : Hid (∀ W, Calls Tryd.prog 52 #[.string s, .int .i64 ((k : Int) + 1)] W (EndPost s.size (unesc (s.data.toList.drop (k + 1))) W)) := fun W => refEnd_any s (k + 1) W hs (by omega)
  have HA : Hid (Blk ((w.alloc (.cells #[.int .i64 0, .int .i64 0, .string ⟨#[]⟩] 37)).alloc (.cells #[.int .i64 5, .int .i64 0, .string ⟨#[]⟩] 37)) (w.heap.size + 1) #[.int .i64 5, .int .i64 0, .string ⟨#[]⟩] 37) := by have := Blk.new (w.alloc (.cells #[.int .i64 0, .int .i64 0, .string ⟨#[]⟩] 37)) #[.int .i64 5, .int .i64 0, .string ⟨#[]⟩] 37; simpa [Hid] using this
  have HR : Hid (Blk ((w.alloc (.cells #[.int .i64 0, .int .i64 0, .string ⟨#[]⟩] 37)).alloc (.cells #[.int .i64 5, .int .i64 0, .string ⟨#[]⟩] 37)) w.heap.size #[.int .i64 0, .int .i64 0, .string ⟨#[]⟩] 37) := (Blk.new w #[.int .i64 0, .int .i64 0, .string ⟨#[]⟩] 37).alloc _
  have HB : Hid (Below w.heap.size w ((w.alloc (.cells #[.int .i64 0, .int .i64 0, .string ⟨#[]⟩] 37)).alloc (.cells #[.int .i64 5, .int .i64 0, .string ⟨#[]⟩] 37))) := ((Below.refl _ _).alloc (Nat.le_refl _) _).alloc (by simp) _
  have HZ : Hid (((w.alloc (.cells #[.int .i64 0, .int .i64 0, .string ⟨#[]⟩] 37)).alloc (.cells #[.int .i64 5, .int .i64 0, .string ⟨#[]⟩] 37)).heap.size = w.heap.size + 2) := by simp [Hid]
  rw [hu] at HEnd
  clear hu
  go_enter Tryd.func33, Tryd.ntmps33
  go_wp2_with (go_at_call 52; refine (HEnd.out _).mono ?_; rintro e w1 ⟨hb1, b5, rfl⟩; have hz1 := hb1.size; have hD := HA.out.below hb1; have hR := HR.out.below hb1; have hlD := hD.lt; have hlR := hR.lt; have c0 := hD.cell 0; have f0 := hD.frozen 0; have c1 := hD.cell 1; have f1 := hD.frozen 1; have c2 := hD.cell 2; have f2 := hD.frozen 2; simp only [List.getElem?_toArray, List.getElem?_cons_zero, List.getElem?_cons_succ] at c0 c1 c2; have d0 := hR.cell 0; have g0 := hR.frozen 0; have d1 := hR.cell 1; have g1 := hR.frozen 1; have d2 := hR.cell 2; have g2 := hR.frozen 2; simp only [List.getElem?_toArray, List.getElem?_cons_zero, List.getElem?_cons_succ] at d0 d1 d2)
  have hF := (((hR.setOther (b' := w.heap.size + 1) (by omega) 2 (.string b5)).set 0 (.int .i64 5)).set 1 (.int .i64 0)).set 2 (.string b5)
  refine bodyPost_ret (v := .tuple #[.agg #[.int .i64 5, .int .i64 0, .string b5], .int .i64 (-1)]) ?_ rfl ⟨?_, _, _, _, rfl⟩
  · have q0 := hF.cell 0; have q1 := hF.cell 1; have q2 := hF.cell 2
    simp [results, Tryd.results33, go_sem, q0, q1, q2]
  · exact ((((HB.out.trans (hb1.mono HB.out.size)).setCell (by simp) _).setCell (by simp) _).setCell (by simp) _).setCell (by simp) _

set_option maxRecDepth 100000 in
set_option maxHeartbeats 4000000 in
theorem refRead_bytes_true (s : ByteArray) (k : Nat) (w : World) (h : k < s.size) (h0 : s[k] = 6) (p : List UInt8 × List UInt8) (hu : unesc (s.data.toList.drop (k + 1)) = some p) (hr : rightD ⟨5, 0, ⟨p.1.toArray⟩⟩ = true) (hs : s.size ≤ 140737488351232) :
    Calls Tryd.prog 33 #[.string s, .int .i64 k] w (ReadPost s.size (some (⟨5, 0, ⟨p.1.toArray⟩⟩, p.2)) w) := by
  have hlk : k + 1 ≤ s.size := by omega
  have hb0 : (s[k].toNat : Int) = 6 := by rw [h0]; rfl
  have HEnd : Hid (∀ W, Calls Tryd.prog 52 #[.string s, .int .i64 ((k : Int) + 1)] W (EndPost s.size (unesc (s.data.toList.drop (k + 1))) W)) := fun W => refEnd_any s (k + 1) W hs (by omega)
  have HA : Hid (Blk ((w.alloc (.cells #[.int .i64 0, .int .i64 0, .string ⟨#[]⟩] 37)).alloc (.cells #[.int .i64 5, .int .i64 0, .string ⟨#[]⟩] 37)) (w.heap.size + 1) #[.int .i64 5, .int .i64 0, .string ⟨#[]⟩] 37) := by have := Blk.new (w.alloc (.cells #[.int .i64 0, .int .i64 0, .string ⟨#[]⟩] 37)) #[.int .i64 5, .int .i64 0, .string ⟨#[]⟩] 37; simpa [Hid] using this
  have HR : Hid (Blk ((w.alloc (.cells #[.int .i64 0, .int .i64 0, .string ⟨#[]⟩] 37)).alloc (.cells #[.int .i64 5, .int .i64 0, .string ⟨#[]⟩] 37)) w.heap.size #[.int .i64 0, .int .i64 0, .string ⟨#[]⟩] 37) := (Blk.new w #[.int .i64 0, .int .i64 0, .string ⟨#[]⟩] 37).alloc _
  have HB : Hid (Below w.heap.size w ((w.alloc (.cells #[.int .i64 0, .int .i64 0, .string ⟨#[]⟩] 37)).alloc (.cells #[.int .i64 5, .int .i64 0, .string ⟨#[]⟩] 37))) := ((Below.refl _ _).alloc (Nat.le_refl _) _).alloc (by simp) _
  have HZ : Hid (((w.alloc (.cells #[.int .i64 0, .int .i64 0, .string ⟨#[]⟩] 37)).alloc (.cells #[.int .i64 5, .int .i64 0, .string ⟨#[]⟩] 37)).heap.size = w.heap.size + 2) := by simp [Hid]
  have HRt : Hid (∀ W, Calls Tryd.prog 30 #[.agg #[.int .i64 5, .int .i64 0, .string ⟨p.1.toArray⟩]] W (RightPost true W)) := fun W => hr ▸ refRight_any 5 0 ⟨p.1.toArray⟩ W
  rw [hu] at HEnd
  clear hu hr
  obtain ⟨a, r⟩ := p
  simp only at HRt
  go_enter Tryd.func33, Tryd.ntmps33
  go_wp2_with (first
    | (go_at_call 52; refine (HEnd.out _).mono ?_; rintro e w1 ⟨hb1, hle, rfl⟩; have hz1 := hb1.size; have hD := HA.out.below hb1; have hR := HR.out.below hb1; have hlD := hD.lt; have hlR := hR.lt; have c0 := hD.cell 0; have f0 := hD.frozen 0; have c1 := hD.cell 1; have f1 := hD.frozen 1; have c2 := hD.cell 2; have f2 := hD.frozen 2; simp only [List.getElem?_toArray, List.getElem?_cons_zero, List.getElem?_cons_succ] at c0 c1 c2; have d0 := hR.cell 0; have g0 := hR.frozen 0; have d1 := hR.cell 1; have g1 := hR.frozen 1; have d2 := hR.cell 2; have g2 := hR.frozen 2; simp only [List.getElem?_toArray, List.getElem?_cons_zero, List.getElem?_cons_succ] at d0 d1 d2; have hle2 : ¬ (s.size : Int) - r.length < 0 := by simp only at hle; omega)
    | (go_at_call 30; refine (HRt.out _).mono ?_; rintro e w2 ⟨rfl, hb2⟩; have hz2 := hb2.size; have hD2 : Blk w2 (w.heap.size + 1) #[.int .i64 5, .int .i64 0, .string ⟨a.toArray⟩] 37 := (hD.set 2 (.string ⟨a.toArray⟩)).below hb2; have hR2 := (hR.setOther (b' := w.heap.size + 1) (by omega) 2 (.string ⟨a.toArray⟩)).below hb2; have hlD2 := hD2.lt; have hlR2 := hR2.lt; have c0 := hD2.cell 0; have f0 := hD2.frozen 0; have c1 := hD2.cell 1; have f1 := hD2.frozen 1; have c2 := hD2.cell 2; have f2 := hD2.frozen 2; simp only [List.getElem?_toArray, List.getElem?_cons_zero, List.getElem?_cons_succ] at c0 c1 c2; have d0 := hR2.cell 0; have g0 := hR2.frozen 0; have d1 := hR2.cell 1; have g1 := hR2.frozen 1; have d2 := hR2.cell 2; have g2 := hR2.frozen 2; simp only [List.getElem?_toArray, List.getElem?_cons_zero, List.getElem?_cons_succ] at d0 d1 d2))
  have hF := ((hR2.set 0 (.int .i64 5)).set 1 (.int .i64 0)).set 2 (.string ⟨a.toArray⟩)
  refine bodyPost_ret (v := .tuple #[.agg #[.int .i64 5, .int .i64 0, .string ⟨a.toArray⟩], .int .i64 ((s.size : Int) - r.length)]) ?_ rfl ⟨?_, hle, rfl⟩
  · have q0 := hF.cell 0; have q1 := hF.cell 1; have q2 := hF.cell 2
    simp [results, Tryd.results33, go_sem, q0, q1, q2]
  · exact ((((HB.out.trans (hb1.mono HB.out.size)).setCell (by simp) _).trans (hb2.mono (by simp <;> omega))).setCell (by simp) _).setCell (by simp) _ |>.setCell (by simp) _

set_option maxRecDepth 100000 in
set_option maxHeartbeats 4000000 in
theorem refRead_bytes_false (s : ByteArray) (k : Nat) (w : World) (h : k < s.size) (h0 : s[k] = 6) (p : List UInt8 × List UInt8) (hu : unesc (s.data.toList.drop (k + 1)) = some p) (hr : rightD ⟨5, 0, ⟨p.1.toArray⟩⟩ = false) (hs : s.size ≤ 140737488351232) :
    Calls Tryd.prog 33 #[.string s, .int .i64 k] w (ReadPost s.size none w) := by
  have hlk : k + 1 ≤ s.size := by omega
  have hb0 : (s[k].toNat : Int) = 6 := by rw [h0]; rfl
  have HEnd : Hid (∀ W, Calls Tryd.prog 52 #[.string s, .int .i64 ((k : Int) + 1)] W (EndPost s.size (unesc (s.data.toList.drop (k + 1))) W)) := fun W => refEnd_any s (k + 1) W hs (by omega)
  have HA : Hid (Blk ((w.alloc (.cells #[.int .i64 0, .int .i64 0, .string ⟨#[]⟩] 37)).alloc (.cells #[.int .i64 5, .int .i64 0, .string ⟨#[]⟩] 37)) (w.heap.size + 1) #[.int .i64 5, .int .i64 0, .string ⟨#[]⟩] 37) := by have := Blk.new (w.alloc (.cells #[.int .i64 0, .int .i64 0, .string ⟨#[]⟩] 37)) #[.int .i64 5, .int .i64 0, .string ⟨#[]⟩] 37; simpa [Hid] using this
  have HR : Hid (Blk ((w.alloc (.cells #[.int .i64 0, .int .i64 0, .string ⟨#[]⟩] 37)).alloc (.cells #[.int .i64 5, .int .i64 0, .string ⟨#[]⟩] 37)) w.heap.size #[.int .i64 0, .int .i64 0, .string ⟨#[]⟩] 37) := (Blk.new w #[.int .i64 0, .int .i64 0, .string ⟨#[]⟩] 37).alloc _
  have HB : Hid (Below w.heap.size w ((w.alloc (.cells #[.int .i64 0, .int .i64 0, .string ⟨#[]⟩] 37)).alloc (.cells #[.int .i64 5, .int .i64 0, .string ⟨#[]⟩] 37))) := ((Below.refl _ _).alloc (Nat.le_refl _) _).alloc (by simp) _
  have HZ : Hid (((w.alloc (.cells #[.int .i64 0, .int .i64 0, .string ⟨#[]⟩] 37)).alloc (.cells #[.int .i64 5, .int .i64 0, .string ⟨#[]⟩] 37)).heap.size = w.heap.size + 2) := by simp [Hid]
  have HRt : Hid (∀ W, Calls Tryd.prog 30 #[.agg #[.int .i64 5, .int .i64 0, .string ⟨p.1.toArray⟩]] W (RightPost false W)) := fun W => hr ▸ refRight_any 5 0 ⟨p.1.toArray⟩ W
  rw [hu] at HEnd
  clear hu hr
  obtain ⟨a, r⟩ := p
  simp only at HRt
  go_enter Tryd.func33, Tryd.ntmps33
  go_wp2_with (first
    | (go_at_call 52; refine (HEnd.out _).mono ?_; rintro e w1 ⟨hb1, hle, rfl⟩; have hz1 := hb1.size; have hD := HA.out.below hb1; have hR := HR.out.below hb1; have hlD := hD.lt; have hlR := hR.lt; have c0 := hD.cell 0; have f0 := hD.frozen 0; have c1 := hD.cell 1; have f1 := hD.frozen 1; have c2 := hD.cell 2; have f2 := hD.frozen 2; simp only [List.getElem?_toArray, List.getElem?_cons_zero, List.getElem?_cons_succ] at c0 c1 c2; have d0 := hR.cell 0; have g0 := hR.frozen 0; have d1 := hR.cell 1; have g1 := hR.frozen 1; have d2 := hR.cell 2; have g2 := hR.frozen 2; simp only [List.getElem?_toArray, List.getElem?_cons_zero, List.getElem?_cons_succ] at d0 d1 d2; have hle2 : ¬ (s.size : Int) - r.length < 0 := by simp only at hle; omega)
    | (go_at_call 30; refine (HRt.out _).mono ?_; rintro e w2 ⟨rfl, hb2⟩; have hz2 := hb2.size; have hD2 : Blk w2 (w.heap.size + 1) #[.int .i64 5, .int .i64 0, .string ⟨a.toArray⟩] 37 := (hD.set 2 (.string ⟨a.toArray⟩)).below hb2; have hR2 := (hR.setOther (b' := w.heap.size + 1) (by omega) 2 (.string ⟨a.toArray⟩)).below hb2; have hlD2 := hD2.lt; have hlR2 := hR2.lt; have c0 := hD2.cell 0; have f0 := hD2.frozen 0; have c1 := hD2.cell 1; have f1 := hD2.frozen 1; have c2 := hD2.cell 2; have f2 := hD2.frozen 2; simp only [List.getElem?_toArray, List.getElem?_cons_zero, List.getElem?_cons_succ] at c0 c1 c2; have d0 := hR2.cell 0; have g0 := hR2.frozen 0; have d1 := hR2.cell 1; have g1 := hR2.frozen 1; have d2 := hR2.cell 2; have g2 := hR2.frozen 2; simp only [List.getElem?_toArray, List.getElem?_cons_zero, List.getElem?_cons_succ] at d0 d1 d2))
  have hF := ((hR2.set 0 (.int .i64 5)).set 1 (.int .i64 0)).set 2 (.string ⟨a.toArray⟩)
  refine bodyPost_ret (v := .tuple #[.agg #[.int .i64 5, .int .i64 0, .string ⟨a.toArray⟩], .int .i64 (-1)]) ?_ rfl ⟨?_, _, _, _, rfl⟩
  · have q0 := hF.cell 0; have q1 := hF.cell 1; have q2 := hF.cell 2
    simp [results, Tryd.results33, go_sem, q0, q1, q2]
  · exact ((((HB.out.trans (hb1.mono HB.out.size)).setCell (by simp) _).trans (hb2.mono (by simp <;> omega))).setCell (by simp) _).setCell (by simp) _ |>.setCell (by simp) _


end Go.Proofs.YtoikbdgbhgokaaaDoor
