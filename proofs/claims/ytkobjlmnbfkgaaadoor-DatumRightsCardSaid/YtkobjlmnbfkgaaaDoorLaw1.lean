/-
  The walk of the law DatumRights: it returns true of every two values, where the tables that the row lists stand.
-/
import Derived.Test.YtkobjlmnbfkgaaaDoorRefPrintB
import Derived.Test.YtkobjlmnbfkgaaaDoorRefPrintN
import Derived.Test.YtkobjlmnbfkgaaaDoorRefCmp
import Derived.Test.YtkobjlmnbfkgaaaDoorKept
namespace Go.Proofs.YtkobjlmnbfkgaaaDoor
open Go.RowKit

theorem rprint_any (k i : Int) (s : ByteArray) (w : World) (hi : -9223372036854775808 ≤ i ∧ i ≤ 9223372036854775807) (hP : Pow10 w) :
    Calls Tryd.prog 14 #[.agg #[.int .i64 k, .int .i64 i, .string s]] w (StrPost (litD k i s) w) := by
  have HR : Hid (∀ w' : World, Calls Tryd.prog 10 #[.agg #[.int .i64 k, .int .i64 i, .string s]] w' (RightPost (rightD ⟨k, i, s⟩) w')) := fun w' => refRight_any k i s w'
  unfold litD
  cases hr : rightD ⟨k, i, s⟩
  · rw [hr] at HR
    exact rprint_no k i s w HR
  · rw [hr] at HR
    have hs := rightD_size ⟨k, i, s⟩ hr
    have hk := rightD_kind ⟨k, i, s⟩ hr
    simp only [] at hs hk
    rw [if_pos rfl]
    unfold litL
    have hcase : k = 0 ∨ k = 1 ∨ k = 2 ∨ k = 3 ∨ k = 4 ∨ k = 5 := by omega
    rcases hcase with rfl | rfl | rfl | rfl | rfl | rfl
    · exact rprint_null i s w HR
    · rcases (rightD_bool ⟨1, i, s⟩ hr rfl).1 with h | h
      · simp only [] at h
        subst h
        exact rprint_false s w HR
      · simp only [] at h
        subst h
        exact rprint_true s w HR
    · exact rprint_int i s w hi (Lib.hid hP) HR
    · exact rprint_dec i s w hi (Lib.hid hP) HR
    · exact rprint_text i s w hs HR
    · exact rprint_bytes i s w hs HR

set_option maxHeartbeats 4000000 in
set_option maxRecDepth 100000 in
theorem rights_any (k1 i1 : Int) (s1 : ByteArray) (k2 i2 : Int) (s2 : ByteArray) (w : World) (hi : -9223372036854775808 ≤ i1 ∧ i1 ≤ 9223372036854775807) (hL : Lits w) :
    Calls Tryd.prog 3 #[.agg #[.int .i64 k1, .int .i64 i1, .string s1], .agg #[.int .i64 k2, .int .i64 i2, .string s2]] w fun e w' => e = .returned (.bool true) ∧ Below w.heap.size w w' := by
  obtain ⟨wr, hwr⟩ : ∃ wr, wr = (w.alloc (.cells #[.int .i64 k1, .int .i64 i1, .string s1] 23)).alloc (.cells #[.int .i64 k2, .int .i64 i2, .string s2] 23) := ⟨_, rfl⟩
  have hbw : Below w.heap.size w wr := hwr ▸ ((Below.refl _ _).alloc (Nat.le_refl _) _).alloc (by simp) _
  have hLr := hL.below hbw
  have bA : Blk wr w.heap.size #[.int .i64 k1, .int .i64 i1, .string s1] 23 := hwr ▸ (Blk.new w _ 23).alloc _
  have bB : Blk wr (w.heap.size + 1) #[.int .i64 k2, .int .i64 i2, .string s2] 23 := hwr ▸ Blk.at (by simp)
  have a0 := bA.cell 0
  have a1 := bA.cell 1
  have a2 := bA.cell 2
  have c0 := bB.cell 0
  have c1 := bB.cell 1
  have c2 := bB.cell 2
  simp only [List.getElem?_toArray, List.getElem?_cons_zero, List.getElem?_cons_succ] at a0 a1 a2 c0 c1 c2
  have K1 : Hid (∀ n : Kept wr, Calls Tryd.prog 9 #[.agg #[.int .i64 k1, .int .i64 i1, .string s1]] n.w fun e w' => e = .returned (.bool (rightD ⟨k1, i1, s1⟩)) ∧ Below n.w.heap.size n.w w') := fun n => right_any k1 i1 s1 n.w (hLr.below n.h).1
  have K2 : Hid (∀ n : Kept wr, Calls Tryd.prog 10 #[.agg #[.int .i64 k1, .int .i64 i1, .string s1]] n.w fun e w' => e = .returned (.bool (rightD ⟨k1, i1, s1⟩)) ∧ Below n.w.heap.size n.w w') := fun n => refRight_any k1 i1 s1 n.w
  have K3 : Hid (∀ n : Kept wr, Calls Tryd.prog 11 #[.agg #[.int .i64 k1, .int .i64 i1, .string s1], .agg #[.int .i64 k2, .int .i64 i2, .string s2]] n.w fun e w' => e = .returned (.int .i64 (ordD k1 i1 s1 k2 i2 s2)) ∧ Below n.w.heap.size n.w w') := fun n => compare_any k1 i1 s1 k2 i2 s2 n.w
  have K4 : Hid (∀ n : Kept wr, Calls Tryd.prog 12 #[.agg #[.int .i64 k1, .int .i64 i1, .string s1], .agg #[.int .i64 k2, .int .i64 i2, .string s2]] n.w fun e w' => e = .returned (.int .i64 (ordD k1 i1 s1 k2 i2 s2)) ∧ Below n.w.heap.size n.w w') := fun n => refCmp_any k1 i1 s1 k2 i2 s2 n.w
  have K5 : Hid (∀ n : Kept wr, Calls Tryd.prog 13 #[.agg #[.int .i64 k1, .int .i64 i1, .string s1]] n.w fun e w' => e = .returned (.string ⟨(litD k1 i1 s1).toArray⟩) ∧ Below n.w.heap.size n.w w') := fun n => print_any k1 i1 s1 n.w hi (hLr.below n.h)
  have K6 : Hid (∀ n : Kept wr, Calls Tryd.prog 14 #[.agg #[.int .i64 k1, .int .i64 i1, .string s1]] n.w fun e w' => e = .returned (.string ⟨(litD k1 i1 s1).toArray⟩) ∧ Below n.w.heap.size n.w w') := fun n => rprint_any k1 i1 s1 n.w hi (hLr.below n.h).2.1
  have y0 := fun n : Kept wr => n.cell a0
  have y1 := fun n : Kept wr => n.cell a1
  have y2 := fun n : Kept wr => n.cell a2
  have z0 := fun n : Kept wr => n.cell c0
  have z1 := fun n : Kept wr => n.cell c1
  have z2 := fun n : Kept wr => n.cell c2
  have HW := Lib.hid hbw
  have HE := Lib.hid hwr
  clear hbw hwr hLr hL bA bB a0 a1 a2 c0 c1 c2 hi
  generalize rightD ⟨k1, i1, s1⟩ = R at *
  generalize ordD k1 i1 s1 k2 i2 s2 = O at *
  generalize litD k1 i1 s1 = l at *
  go_enter Tryd.func3, Tryd.ntmps3
  go_wp2_with fail
  rw [← HE.out]
  refine wp_region_kept (by kernel_rfl) (by kernel_rfl) ?_
  repeat (go_big_quiet_step ((first
    | (go_at_call 9; exact Calls.kept (K1.out _))
    | (go_at_call 10; exact Calls.kept (K2.out _))
    | (go_at_call 11; exact Calls.kept (K3.out _))
    | (go_at_call 12; exact Calls.kept (K4.out _))
    | (go_at_call 13; exact Calls.kept (K5.out _))
    | (go_at_call 14; exact Calls.kept (K6.out _)))))
  refine wpQuiet_nil ?_
  intro _ hw'
  obtain ⟨nk, hw''⟩ := hw'
  subst hw''
  go_wp2
  go_ret
  exact ⟨rfl, HW.out.trans (nk.h.mono HW.out.size)⟩

end Go.Proofs.YtkobjlmnbfkgaaaDoor
