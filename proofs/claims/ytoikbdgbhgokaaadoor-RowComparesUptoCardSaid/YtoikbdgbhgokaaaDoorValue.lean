/-
  The contract of row's appendValue: a value's bytes behind what the slice holds; it makes memory of its own alone.
-/
import Derived.Test.YtoikbdgbhgokaaaDoorText
import Derived.Test.YtoikbdgbhgokaaaDoorCells
import Derived.Test.YtoikbdgbhgokaaaDoorXorPure
namespace Go.Proofs.YtoikbdgbhgokaaaDoor
open Go.RowKit

theorem grown_cell {w w' : World} {b : Nat} {v : Value} {cs : Array Value} {t : TypeId} (h : Blk w b cs t) (hne : v.ownBlock ≠ some b) (hg : w.grownBy w' v.ownBlock) : Blk w' b cs t :=
  (hg.block b h.lt (fun e => hne e.symm)).trans h

set_option maxRecDepth 100000 in
set_option maxHeartbeats 4000000 in
theorem appValue (k i : Int) (s : ByteArray) (base : Nat) (v : Value) (l : List UInt8) (w : World) (hk0 : 0 ≤ k) (hk5 : k ≤ 5) (hI : Hid (-9223372036854775808 ≤ i ∧ i ≤ 9223372036854775807)) (hown : OwnB w base v l) (hbase : base ≤ w.heap.size) (hlen : l.length ≤ 35184372088832) (hs : s.size ≤ 1000) :
    Calls Tryd.prog 29 #[v, .agg #[.int .i64 k, .int .i64 i, .string s]] w (AppPost base w (l ++ encD ⟨k, i, s⟩)) := by
  go_enter Tryd.func29, Tryd.ntmps29
  have h0 := u8_toNat (k + 1) (by omega) (by omega)
  go_wp2_with (at_builtin; refine wpList_append_bytes _ rfl _ _ rfl base _ _ rfl ((hown.alloc _).alloc _) ⟨w.heap.size + 1, 0, none⟩ [u8 (k + 1)] 1 1 rfl rfl (news_one (w.alloc _) _ _ h0 _ (by simp)) (by omega) (by simp; omega) ?_)
  intro v1 w1 ho1 hg
  have hD : Blk ((w.alloc (.cells #[.int .i64 k, .int .i64 i, .string s] 37)).alloc (.cells #[.int .u8 (k + 1)] 5)) w.heap.size #[.int .i64 k, .int .i64 i, .string s] 37 := (Blk.new w _ 37).alloc _
  have hne : v.ownBlock ≠ some w.heap.size := fun e => by have := (hown.lt _ e).2; omega
  have hD1 := grown_cell hD hne hg
  have d0 := hD1.cell 0
  have d1 := hD1.cell 1
  have d2 := hD1.cell 2
  simp only [List.getElem?_toArray, List.getElem?_cons_zero, List.getElem?_cons_succ] at d0 d1 d2
  have hb1 : Below base w w1 := (Below.refl base w).trans (Below.trans (((Below.refl base w).alloc hbase _).alloc (by simp; omega) _) (own_below ((hown.alloc _).alloc _) (by simp; omega) hg))
  have hz1 := hb1.size
  clear hg hD hD1 hown hne h0
  rcases (show k = 0 ∨ k = 1 ∨ (k = 2 ∨ k = 3) ∨ (k = 4 ∨ k = 5) by omega) with rfl | rfl | h | h
  · clear hk0 hk5
    go_wp2
    go_ret
    exact ⟨_, rfl, ho1, hb1⟩
  · clear hk0 hk5
    have h0 : ((u8 i).toNat : Int) = i % 256 := by unfold u8; rw [UInt8.toNat_ofNat']; omega
    have H0 := Lib.hid h0
    clear h0
    go_wp2_with (at_builtin; refine wpList_append_bytes _ rfl _ _ rfl base _ _ rfl (ho1.alloc _) ⟨w1.heap.size, 0, none⟩ [u8 i] 1 1 rfl rfl (news_one w1 _ _ H0.out _ rfl) (by simp; omega) (by simp; omega) ?_)
    intro v2 w2 ho2 hg
    have hb2 := bel_app hb1 ho1 (by omega) hg
    clear hg ho1
    go_wp2
    go_ret
    exact ⟨_, rfl, by simpa [encD, bodyD] using ho2, hb2⟩
  · rcases h with rfl | rfl
    all_goals
      clear hk0 hk5
      go_wp2_with fail
      rw [xor_top i hI.out.1 hI.out.2]
      refine (appNum base v1 _ (turned i) _ ho1 (by omega) (by simp; omega)).mono ?_
      rintro e w' ⟨v2, rfl, ho2, hb2⟩
      go_wp2
      go_ret
      exact ⟨_, rfl, by simpa [encD, bodyD] using ho2, hb1.trans hb2⟩
  · rcases h with rfl | rfl
    all_goals
      clear hk0 hk5
      go_wp2_with (go_at_call 47; refine (appText base v1 _ s _ ho1 (by omega) (by simp; omega) hs).mono ?_; rintro e w' ⟨v2, rfl, ho2, hb2⟩)
      go_ret
      exact ⟨_, rfl, by simpa [encD, bodyD] using ho2, hb1.trans hb2⟩

end Go.Proofs.YtoikbdgbhgokaaaDoor
