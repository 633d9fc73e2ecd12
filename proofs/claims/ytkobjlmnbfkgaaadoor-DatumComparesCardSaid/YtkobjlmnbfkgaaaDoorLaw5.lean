/-
  The walk of the law DatumCompares: it returns true of every two values; the tables of unicode/utf8 stand as their initialisers lay them.
-/
import Derived.Test.YtkobjlmnbfkgaaaDoorLaw5N
import Derived.Test.YtkobjlmnbfkgaaaDoorLaw5S0
import Derived.Test.YtkobjlmnbfkgaaaDoorLaw5S1
import Derived.Test.YtkobjlmnbfkgaaaDoorLaw5S2
import Derived.Test.YtkobjlmnbfkgaaaDoorLaw5S02
import Derived.Test.YtkobjlmnbfkgaaaDoorLaw5S03
import Derived.Test.YtkobjlmnbfkgaaaDoorLaw5S12
import Derived.Test.YtkobjlmnbfkgaaaDoorLaw5S13
import Derived.Test.YtkobjlmnbfkgaaaDoorLaw5S22
import Derived.Test.YtkobjlmnbfkgaaaDoorLaw5S23
import Derived.Test.YtkobjlmnbfkgaaaDoorLaw5D0
import Derived.Test.YtkobjlmnbfkgaaaDoorLaw5D1
import Derived.Test.YtkobjlmnbfkgaaaDoorLaw5D2
import Derived.Test.YtkobjlmnbfkgaaaDoorLaw5R
namespace Go.Proofs.YtkobjlmnbfkgaaaDoor
open Go.RowKit

theorem compares_any (k1 i1 : Int) (s1 : ByteArray) (k2 i2 : Int) (s2 : ByteArray) (w : World) (hT : Tabs w) (b1 : -9223372036854775808 ≤ i1 ∧ i1 ≤ 9223372036854775807) (b2 : -9223372036854775808 ≤ i2 ∧ i2 ≤ 9223372036854775807) :
    Calls Tryd.prog 5 #[.agg #[.int .i64 k1, .int .i64 i1, .string s1], .agg #[.int .i64 k2, .int .i64 i2, .string s2]] w fun e w' => e = .returned (.bool true) ∧ Below w.heap.size w w' := by
  cases hr1 : rightD ⟨k1, i1, s1⟩
  · exact compares_wrong1 k1 i1 s1 k2 i2 s2 w hr1
  cases hr2 : rightD ⟨k2, i2, s2⟩
  · exact compares_wrong2 k1 i1 s1 k2 i2 s2 w hr1 hr2
  have HR1 : Hid (∀ W, Calls Tryd.prog 10 #[.agg #[.int .i64 k1, .int .i64 i1, .string s1]] W (RightPost true W)) := fun W => hr1 ▸ refRight_any k1 i1 s1 W
  have HR2 : Hid (∀ W, Calls Tryd.prog 10 #[.agg #[.int .i64 k2, .int .i64 i2, .string s2]] W (RightPost true W)) := fun W => hr2 ▸ refRight_any k2 i2 s2 W
  have hA := fun (K : Int) (I : Nat → Int) (E : Int) (HC : ∀ (j : Nat), j < 6 → ∀ w : World, Calls Tryd.prog 42 #[.int .i64 (7 + (j : Int)), .agg #[.int .i64 k1, .int .i64 i1, .string s1], .agg #[.int .i64 k2, .int .i64 i2, .string s2]] w (ResPost K (I j) E w)) (j : Nat) (W : World) (b : Nat) (hj : j < 6) (hb : Below w.heap.size w W) (hB : Blk W b #[.int .i64 k1, .int .i64 i1, .string s1, .int .i64 k2, .int .i64 i2, .string s2] 23) =>
    applies_any k1 i1 s1 k2 i2 s2 K (I j) E j b W hj (hT.below hb) hr1 hr2 (HC j hj) hB
  have op : ∀ j : Nat, j < 6 → (7 + (j : Int) = 7 ∨ 7 + (j : Int) = 8 ∨ 7 + (j : Int) = 9 ∨ 7 + (j : Int) = 10 ∨ 7 + (j : Int) = 11 ∨ 7 + (j : Int) = 12) := fun j hj => by omega
  have g1 := rightD_kind _ hr1
  have g2 := rightD_kind _ hr2
  simp only at g1 g2
  by_cases h1 : k1 = 0
  · subst h1
    exact cmp_null1 i1 s1 k2 i2 s2 w HR1 HR2 (hA 0 (fun _ => 0) 0 fun j _ w => rel_null1 _ _ _ _ _ _ _ rfl w)
  by_cases h2 : k2 = 0
  · subst h2
    exact cmp_null2 k1 i1 s1 i2 s2 w (by simpa using h1) HR1 HR2 (hA 0 (fun _ => 0) 0 fun j _ w => rel_null2 _ _ _ _ _ _ _ h1 rfl w)
  by_cases he : k1 = k2
  · subst he
    by_cases hn : k1 = 2 ∨ k1 = 3
    · have z1 : s1 = noText := ba_empty' (rightD_num _ hr1 hn) rfl
      have z2 : s2 = noText := ba_empty' (rightD_num _ hr2 hn) rfl
      subst z1 z2
      have HC := fun (n : Int) (hn' : ordI i1 i2 = n) => hA 1 (fun j => bitOf (holdsB (7 + (j : Int)) n)) 0 fun j hj w => rel_num (7 + (j : Int)) k1 i1 noText k1 i2 noText n (op j hj) (by unfold numB; rcases hn with rfl | rfl <;> rfl) (by unfold numB; rcases hn with rfl | rfl <;> rfl) (fun w => hn' ▸ cmpN_same k1 i1 i2 w) w
      have HN := fun (n : Int) (hn' : ordI i1 i2 = n) => (fun W => by have := compare_any k1 i1 noText k1 i2 noText W; rw [ordD_none, hn'] at this; exact this : Hid (∀ W, Calls Tryd.prog 11 #[.agg #[.int .i64 k1, .int .i64 i1, .string noText], .agg #[.int .i64 k1, .int .i64 i2, .string noText]] W (IntPost n W)))
      rcases ordI_cases i1 i2 with ⟨_, ho⟩ | ⟨_, ho⟩ | ⟨_, ho⟩ <;> rcases hn with rfl | rfl
      · exact cmp_same0_2 _ _ _ _ w HR1 HR2 (HC _ ho) (HN _ ho)
      · exact cmp_same0_3 _ _ _ _ w HR1 HR2 (HC _ ho) (HN _ ho)
      · exact cmp_same1_2 _ _ _ _ w HR1 HR2 (HC _ ho) (HN _ ho)
      · exact cmp_same1_3 _ _ _ _ w HR1 HR2 (HC _ ho) (HN _ ho)
      · exact cmp_same2_2 _ _ _ _ w HR1 HR2 (HC _ ho) (HN _ ho)
      · exact cmp_same2_3 _ _ _ _ w HR1 HR2 (HC _ ho) (HN _ ho)
    · have hb : numB k1 = false := by unfold numB; simp; omega
      have HC := fun (n : Int) (hn' : ordD k1 i1 s1 k1 i2 s2 = n) => hA 1 (fun j => bitOf (holdsB (7 + (j : Int)) n)) 0 fun j hj w => hn' ▸ rel_same (7 + (j : Int)) k1 i1 s1 k1 i2 s2 (op j hj) h1 hb rfl w
      have HN := fun (n : Int) (hn' : ordD k1 i1 s1 k1 i2 s2 = n) => (fun W => hn' ▸ compare_any k1 i1 s1 k1 i2 s2 W : Hid (∀ W, Calls Tryd.prog 11 #[.agg #[.int .i64 k1, .int .i64 i1, .string s1], .agg #[.int .i64 k1, .int .i64 i2, .string s2]] W (IntPost n W)))
      have e0 : (k1 == 0) = false := by simpa using h1
      have e2 : (k1 == 2) = false := by simp; omega
      have e3 : (k1 == 3) = false := by simp; omega
      have hr := ordD_range k1 i1 s1 k1 i2 s2
      rcases (show ordD k1 i1 s1 k1 i2 s2 = -1 ∨ ordD k1 i1 s1 k1 i2 s2 = 0 ∨ ordD k1 i1 s1 k1 i2 s2 = 1 by omega) with ho | ho | ho
      · exact cmp_same0 _ _ _ _ _ w e0 e2 e3 HR1 HR2 (HC _ ho) (HN _ ho)
      · exact cmp_same1 _ _ _ _ _ w e0 e2 e3 HR1 HR2 (HC _ ho) (HN _ ho)
      · exact cmp_same2 _ _ _ _ _ w e0 e2 e3 HR1 HR2 (HC _ ho) (HN _ ho)
  · have e0 : (k1 == 0) = false := by simpa using h1
    have e1 : (k2 == 0) = false := by simpa using h2
    have e2 : (k1 == k2) = false := by simpa using he
    by_cases hn1 : k1 = 2 ∨ k1 = 3
    · have n1 : numB k1 = true := by unfold numB; rcases hn1 with rfl | rfl <;> rfl
      by_cases hn2 : k2 = 2 ∨ k2 = 3
      · have n2 : numB k2 = true := by unfold numB; rcases hn2 with rfl | rfl <;> rfl
        have z1 : s1 = noText := ba_empty' (rightD_num _ hr1 hn1) rfl
        have z2 : s2 = noText := ba_empty' (rightD_num _ hr2 hn2) rfl
        subst z1 z2
        rcases (show (k1 = 2 ∧ k2 = 3) ∨ (k1 = 3 ∧ k2 = 2) by omega) with ⟨rfl, rfl⟩ | ⟨rfl, rfl⟩
        · have HC := fun (n : Int) (hn' : cmpN 2 i1 3 i2 = n) => hA 1 (fun j => bitOf (holdsB (7 + (j : Int)) n)) 0 fun j hj w => rel_num (7 + (j : Int)) 2 i1 noText 3 i2 noText n (op j hj) rfl rfl (fun w => hn' ▸ cmpN_id i1 i2 w b1) w
          rcases cmpN_cases 2 i1 3 i2 with ho | ho | ho
          · exact cmp_num0_23 _ _ _ _ w HR1 HR2 (HC _ ho)
          · exact cmp_num1_23 _ _ _ _ w HR1 HR2 (HC _ ho)
          · exact cmp_num2_23 _ _ _ _ w HR1 HR2 (HC _ ho)
        · have HC := fun (n : Int) (hn' : cmpN 3 i1 2 i2 = n) => hA 1 (fun j => bitOf (holdsB (7 + (j : Int)) n)) 0 fun j hj w => rel_num (7 + (j : Int)) 3 i1 noText 2 i2 noText n (op j hj) rfl rfl (fun w => hn' ▸ cmpN_di i1 i2 w b2) w
          rcases cmpN_cases 3 i1 2 i2 with ho | ho | ho
          · exact cmp_num0_32 _ _ _ _ w HR1 HR2 (HC _ ho)
          · exact cmp_num1_32 _ _ _ _ w HR1 HR2 (HC _ ho)
          · exact cmp_num2_32 _ _ _ _ w HR1 HR2 (HC _ ho)
      · have n2 : numB k2 = false := by unfold numB; simp; omega
        have e4 : (k2 == 2) = false := by simp; omega
        have e5 : (k2 == 3) = false := by simp; omega
        have HC := hA 0 (fun _ => 0) 5 fun j _ w => rel_type (7 + (j : Int)) k1 i1 s1 k2 i2 s2 h1 h2 (.inr ⟨n1, n2⟩) he w
        rcases hn1 with rfl | rfl
        · exact cmp_type2_2 _ _ _ _ _ w e1 e2 e4 e5 HR1 HR2 HC
        · exact cmp_type2_3 _ _ _ _ _ w e1 e2 e4 e5 HR1 HR2 HC
    · have n1 : numB k1 = false := by unfold numB; simp; omega
      exact cmp_type1 _ _ _ _ _ _ w e0 e1 e2 (by simp; omega) (by simp; omega) HR1 HR2 (hA 0 (fun _ => 0) 5 fun j _ w => rel_type (7 + (j : Int)) k1 i1 s1 k2 i2 s2 h1 h2 (.inl n1) he w)

end Go.Proofs.YtkobjlmnbfkgaaaDoor
