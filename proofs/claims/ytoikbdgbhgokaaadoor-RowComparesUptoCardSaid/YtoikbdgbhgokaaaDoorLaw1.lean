/-
  The walk of the law RowCompares: it returns true of every two rows of at most 1048576 values, where the tables that the row lists stand.
-/
import Derived.Test.YtoikbdgbhgokaaaDoorRowRefPrint
import Derived.Test.YtoikbdgbhgokaaaDoorCmpRow
import Derived.Test.YtoikbdgbhgokaaaDoorRefCmp
import Derived.Test.YtoikbdgbhgokaaaDoorLaw8
namespace Go.Proofs.YtoikbdgbhgokaaaDoor
open Go.RowKit

theorem cmpD_self (d : Dat) : cmpD d d = 0 := ordD_self _ _ _
theorem cmpR_self : ∀ l : List Dat, cmpR l l = 0
  | [] => rfl
  | d :: l => by rw [cmpR, if_pos (cmpD_self d)]; exact cmpR_self l

set_option maxHeartbeats 4000000 in
set_option maxRecDepth 100000 in
theorem compares_any (v1 v2 : Value) (l1 l2 : List Dat) (w : World) (h1 : RowV w v1 l1) (h2 : RowV w v2 l2) (hl : l1.length ≤ 1048576) (hI : ∀ d ∈ l1, InI d) (hL : Lits w) :
    Calls Tryd.prog 3 #[v1, v2] w fun e w' => e = .returned (.bool true) ∧ Below w.heap.size w w' := by
  have K1 : Hid (Calls Tryd.prog 10 #[v1, v2] w (IntPost (cmpR l1 l2) w)) := rowCompare_any v1 v2 l1 l2 w h1 h2
  have K2 : Hid (∀ W, Below w.heap.size w W → Calls Tryd.prog 11 #[v1, v2] W (IntPost (cmpR l1 l2) W)) := fun W hb => refCompare_row v1 v2 l1 l2 W (h1.below hb) (h2.below hb)
  have K3 : Hid (∀ W, Below w.heap.size w W → Calls Tryd.prog 12 #[v1] W fun e w' => ∃ v', e = .returned v' ∧ OwnD w' W.heap.size v' l1 ∧ Below W.heap.size W w') := fun W hb => refCopy v1 l1 W (h1.below hb) (by omega)
  have K4 : Hid (∀ W v', Below w.heap.size w W → RowV W v' l1 → Calls Tryd.prog 10 #[v1, v'] W (IntPost 0 W)) := fun W v' hb hv => cmpR_self l1 ▸ rowCompare_any v1 v' l1 l1 W (h1.below hb) hv
  have K5 : Hid (∀ W, Below w.heap.size w W → Calls Tryd.prog 13 #[v1] W (StrPost (40 :: (joinL l1 ++ [41])) W)) := fun W hb => rowPrint_any v1 l1 W (h1.below hb) hl hI (hL.below hb)
  have K6 : Hid (∀ W, Below w.heap.size w W → Calls Tryd.prog 14 #[v1] W (StrPost (40 :: (joinL l1 ++ [41])) W)) := fun W hb => rrowPrint_any v1 l1 W (h1.below hb) hl hI (hL.below hb).2.1
  clear h1 h2 hl hI hL
  generalize 40 :: (joinL l1 ++ [41]) = p at *
  generalize cmpR l1 l2 = c at *
  go_enter Tryd.func3, Tryd.ntmps3
  go_wp2_with fail
  refine K1.out.mono ?_
  rintro e w1 ⟨rfl, b1⟩
  go_wp2_with fail
  refine (K2.out _ b1).mono ?_
  rintro e w2 ⟨rfl, hb2⟩
  have b2 := b1.trans (hb2.mono b1.size)
  clear b1 hb2
  go_wp2_with fail
  refine (K3.out _ b2).mono ?_
  rintro e w3 ⟨v', rfl, ho, hb3⟩
  have b3 := b2.trans (hb3.mono b2.size)
  have hv := ho.row
  clear b2 hb3 ho
  go_wp2_with fail
  refine (K4.out _ _ b3 hv).mono ?_
  rintro e w4 ⟨rfl, hb4⟩
  have b4 := b3.trans (hb4.mono b3.size)
  clear b3 hb4 hv
  go_wp2_with fail
  refine (K5.out _ b4).mono ?_
  rintro e w5 ⟨rfl, hb5⟩
  have b5 := b4.trans (hb5.mono b4.size)
  clear b4 hb5
  go_wp2_with fail
  refine (K6.out _ b5).mono ?_
  rintro e w6 ⟨rfl, hb6⟩
  have b6 := b5.trans (hb6.mono b5.size)
  clear b5 hb6
  go_wp2
  go_ret
  exact ⟨rfl, b6⟩

end Go.Proofs.YtoikbdgbhgokaaaDoor
