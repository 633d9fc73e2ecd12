/-
  The walk of the law RowReads: it returns true of every string; the tables of unicode/utf8 stand as their initialisers lay them.
-/
import Derived.Test.YtoikbdgbhgokaaaDoorRefDec
import Derived.Test.YtoikbdgbhgokaaaDoorRefCmp
namespace Go.Proofs.YtoikbdgbhgokaaaDoor
open Go.RowKit

set_option maxRecDepth 100000 in
set_option maxHeartbeats 4000000 in
theorem reads_core (s : ByteArray) (c : Option (List Dat)) (w : World)
    (HD : Hid (∀ W, Below w.heap.size w W → Calls Tryd.prog 17 #[.string s] W (DecPost c W)))
    (HE : Hid (∀ W, Below w.heap.size w W → Calls Tryd.prog 18 #[.string s] W (DecPost c W))) :
    Calls Tryd.prog 5 #[.string s] w fun e w' => e = .returned (.bool true) ∧ Below w.heap.size w w' := by
  cases c with
  | none =>
    have HS : Hid (∀ W, Calls Tryd.prog 19 #[.slice none 0 0, .slice none 0 0] W (RightPost true W)) := fun W => refSame_row _ _ [] W (.inl ⟨rfl, rfl⟩) (.inl ⟨rfl, rfl⟩)
    go_enter Tryd.func5, Tryd.ntmps5
    go_wp2_with fail
    refine (HD.out _ (Below.refl _ _)).mono ?_
    rintro e w1 ⟨hb1, rfl⟩
    go_wp2_with fail
    refine (HE.out _ hb1).mono ?_
    rintro e w2 ⟨hb2, rfl⟩
    have hc2 := hb1.trans (hb2.mono hb1.size)
    go_wp2_with (go_at_call 19; refine (HS.out _).mono ?_; rintro e w3 ⟨rfl, hb3⟩)
    go_ret
    exact ⟨by simp, hc2.trans (hb3.mono hc2.size)⟩
  | some l =>
    go_enter Tryd.func5, Tryd.ntmps5
    go_wp2_with fail
    refine (HD.out _ (Below.refl _ _)).mono ?_
    rintro e w1 ⟨hb1, va, rfl, hoa⟩
    go_wp2_with fail
    refine (HE.out _ hb1).mono ?_
    rintro e w2 ⟨hb2, vb, rfl, hob⟩
    have hc2 := hb1.trans (hb2.mono hb1.size)
    have HS : Hid (Calls Tryd.prog 19 #[va, vb] w2 (RightPost true w2)) := refSame_row _ _ l w2 (hoa.below hb2).row hob.row
    obtain ⟨Aa, ca, rfl⟩ := hoa.shape
    obtain ⟨Ab, cb, rfl⟩ := hob.shape
    clear hoa hob hb1 hb2
    go_wp2_with (go_at_call 19; refine HS.out.mono ?_; rintro e w3 ⟨rfl, hb3⟩)
    go_ret
    exact ⟨by simp, hc2.trans (hb3.mono hc2.size)⟩

theorem rowReads_any (s : ByteArray) (w : World) (hs : s.size ≤ 140737488351232) (hT : Tabs w) :
    Calls Tryd.prog 5 #[.string s] w fun e w' => e = .returned (.bool true) ∧ Below w.heap.size w w' :=
  reads_core s (decR 1000 s.data.toList) w (fun W hb => decode_any s W (by omega) (hT.below hb)) (fun W _ => refDecode_any s W hs)

end Go.Proofs.YtoikbdgbhgokaaaDoor
