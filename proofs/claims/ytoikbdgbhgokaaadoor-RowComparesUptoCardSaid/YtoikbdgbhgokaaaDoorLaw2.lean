/-
  The walk of the law RowBytes: it returns true of every row; the tables of unicode/utf8 stand as their initialisers lay them.
-/
import Derived.Test.YtoikbdgbhgokaaaDoorFrame
import Derived.Test.YtoikbdgbhgokaaaDoorEncRef
namespace Go.Proofs.YtoikbdgbhgokaaaDoor
open Go.RowKit

theorem encode_any (v : Value) (l : List Dat) (w : World) (hv : RowV w v l) (hI : ∀ d ∈ l, InI d) (hT : Tabs w) : Calls Tryd.prog 15 #[v] w (EncPost l w) := by
  by_cases hl : 1000 < l.length
  · exact encode_long v l w hv hl
  · rcases hv with ⟨rfl, rfl⟩ | ⟨b, off, cap, rfl, hm, hb, hr⟩
    · exact encode_nil w
    · exact encode_short b off cap l w hb hr (by omega) hI hT
theorem refEncode_any (v : Value) (l : List Dat) (w : World) (hv : RowV w v l) (hI : ∀ d ∈ l, InI d) : Calls Tryd.prog 16 #[v] w (EncPost l w) := by
  by_cases hl : 1000 < l.length
  · exact refEncode_long v l w hv hl
  · rcases hv with ⟨rfl, rfl⟩ | ⟨b, off, cap, rfl, hm, hb, hr⟩
    · exact refEncode_nil w
    · exact refEncode_short b off cap l w hb hr (by omega) hI

set_option maxRecDepth 100000 in
set_option maxHeartbeats 4000000 in
theorem rowBytes_any (v : Value) (l : List Dat) (w : World) (hv : RowV w v l) (hI : ∀ d ∈ l, InI d) (hT : Tabs w) :
    Calls Tryd.prog 4 #[v] w fun e w' => e = .returned (.bool true) ∧ Below w.heap.size w w' := by
  have HE : Hid (Calls Tryd.prog 15 #[v] w (EncPost l w)) := encode_any v l w hv hI hT
  have HF : Hid (∀ w', Below w.heap.size w w' → Calls Tryd.prog 16 #[v] w' (EncPost l w')) := fun w' hb => refEncode_any v l w' (hv.below hb) hI
  clear hv hI hT
  revert HE HF
  unfold EncPost
  generalize (⟨(encS l).toArray⟩ : ByteArray) = S
  generalize encE l = E
  intro HE HF
  go_enter Tryd.func4, Tryd.ntmps4
  go_wp2_with (first
    | (go_at_call 15; refine HE.out.mono ?_; rintro e w1 ⟨rfl, hb1⟩)
    | (go_at_call 16; refine (HF.out _ hb1).mono ?_; rintro e w2 ⟨rfl, hb2⟩))
  go_ret
  exact ⟨by simp, hb1.trans (hb2.mono hb1.size)⟩

end Go.Proofs.YtoikbdgbhgokaaaDoor
