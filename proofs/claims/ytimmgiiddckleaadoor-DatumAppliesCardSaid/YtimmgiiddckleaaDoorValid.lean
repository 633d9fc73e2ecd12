/-
  The contracts of utf8.ValidString, of datum's Right and of the reference's Runes and Right, for every value; the tables of unicode/utf8 stand as their initialisers lay them.
-/
import Derived.Test.YtimmgiiddckleaaDoorCells
import Derived.Test.YtimmgiiddckleaaDoorPosts
import Derived.Test.YtimmgiiddckleaaDoorRowPure
import Derived.Test.YtimmgiiddckleaaDoorRunesPure
import Derived.Test.YtimmgiiddckleaaDoorShelf3
import Derived.Laws.RangeString
import Derived.Laws.RangeAny
namespace Go.Proofs.YtimmgiiddckleaaDoor
open Go.RowKit

def Tabs (w : World) : Prop := Lib.Utf8Tabs (Tryd.laysValid_ren.g 3) (Tryd.laysValid_ren.g 4) w

theorem Tabs.below {w w' : World} (h : Tabs w) (hb : Below w.heap.size w w') : Tabs w' :=
  Utf8Tabs_below h hb

theorem valid_any (s : ByteArray) (w : World) (hs : s.size ≤ 1000) (hT : Tabs w) :
    Calls Tryd.prog 41 #[.string s] w (RightPost (Lib.validD s.data.toList) w) :=
  Any.utf8_ValidString Tryd.laysValid s w (by omega) hT

theorem empty_eq (s : ByteArray) : s.toList.isEmpty = decide (s.size = 0) := by
  rw [ByteArray.toList_eq, Bool.eq_iff_iff, List.isEmpty_iff, decide_eq_true_eq]
  constructor
  · intro h
    have := congrArg List.length h
    rw [Array.length_toList] at this
    exact this
  · intro h
    exact List.eq_nil_of_length_eq_zero (by rw [Array.length_toList]; exact h)

set_option maxHeartbeats 4000000 in
set_option maxRecDepth 100000 in
theorem right_any (k i : Int) (s : ByteArray) (w : World) (hT : Tabs w) :
    Calls Tryd.prog 17 #[.agg #[.int .i64 k, .int .i64 i, .string s]] w (RightPost (rightD ⟨k, i, s⟩) w) := by
  have hE := empty_eq s
  by_cases k0 : k = 0
  · have HR : Hid (rightD ⟨k, i, s⟩ = (decide (i = 0) && s.toList.isEmpty)) := by unfold Hid rightD; rw [hE]; simp [k0]
    clear hE
    subst k0
    go_enter Tryd.func17, Tryd.ntmps17
    go_wp2
    all_goals
      go_ret
      exact ⟨by rw [HR.out]; simp [*], (Below.refl _ _).alloc (Nat.le_refl _) _⟩
  by_cases k1 : k = 1
  · have HR : Hid (rightD ⟨k, i, s⟩ = ((decide (i = 0) || decide (i = 1)) && s.toList.isEmpty)) := by unfold Hid rightD; rw [hE]; simp [k1]
    clear hE k0
    subst k1
    go_enter Tryd.func17, Tryd.ntmps17
    go_wp2
    all_goals
      go_ret
      exact ⟨by rw [HR.out]; simp [*], (Below.refl _ _).alloc (Nat.le_refl _) _⟩
  by_cases k2 : k = 2 ∨ k = 3
  · have HR : Hid (rightD ⟨k, i, s⟩ = s.toList.isEmpty) := by unfold Hid rightD; rw [hE]; rcases k2 with rfl | rfl <;> simp
    clear hE k0 k1
    rcases k2 with rfl | rfl
    all_goals
      go_enter Tryd.func17, Tryd.ntmps17
      go_wp2
      go_ret
      exact ⟨by rw [HR.out]; rfl, (Below.refl _ _).alloc (Nat.le_refl _) _⟩
  clear hE
  by_cases k4 : k = 4
  · have HR : Hid (rightD ⟨k, i, s⟩ = (decide (i = 0) && (decide (s.size ≤ 1000) && Lib.validD s.data.toList))) := by unfold Hid rightD; simp [k4]
    clear k0 k1 k2
    subst k4
    have hV : Hid (s.size ≤ 1000 → Calls Tryd.prog 41 #[.string s] (w.alloc (.cells #[.int .i64 4, .int .i64 i, .string s] 24)) (RightPost (Lib.validD s.data.toList) (w.alloc (.cells #[.int .i64 4, .int .i64 i, .string s] 24)))) :=
      fun h => valid_any s _ h (hT.below ((Below.refl _ _).alloc (Nat.le_refl _) _))
    clear hT
    by_cases hi : i = 0
    · subst hi
      by_cases hz : s.size ≤ 1000
      · have hz' : (s.size : Int) ≤ 1000 := by omega
        have HZ := Lib.hid hz
        clear hz
        go_enter Tryd.func17, Tryd.ntmps17
        go_wp2_with (go_at_call 41; refine (hV.out HZ.out).mono ?_; rintro e w' ⟨rfl, hb⟩)
        go_ret
        exact ⟨by rw [HR.out]; simp [HZ.out], ((Below.refl w.heap.size w).alloc (Nat.le_refl _) _).trans (hb.mono (by simp))⟩
      · have hz' : ¬ ((s.size : Int) ≤ 1000) := by omega
        have HZ := Lib.hid hz
        clear hz
        go_enter Tryd.func17, Tryd.ntmps17
        go_wp2
        go_ret
        exact ⟨by rw [HR.out]; simp; intro h; exact absurd h HZ.out, (Below.refl _ _).alloc (Nat.le_refl _) _⟩
    · have hi' : (i == 0) = false := by simpa using hi
      have HI := Lib.hid hi
      clear hi
      go_enter Tryd.func17, Tryd.ntmps17
      go_wp2
      go_ret
      exact ⟨by rw [HR.out]; simp [HI.out], (Below.refl _ _).alloc (Nat.le_refl _) _⟩
  by_cases k5 : k = 5
  · have HR : Hid (rightD ⟨k, i, s⟩ = (decide (i = 0) && decide (s.size ≤ 1000))) := by unfold Hid rightD; simp [k5]
    clear k0 k1 k2 k4
    subst k5
    go_enter Tryd.func17, Tryd.ntmps17
    go_wp2
    all_goals
      go_ret
      exact ⟨by rw [HR.out]; simp [*] <;> omega, (Below.refl _ _).alloc (Nat.le_refl _) _⟩
  · have HR : Hid (rightD ⟨k, i, s⟩ = false) := by unfold Hid rightD; simp [k0, k1, k4, k5]; omega
    have e0 : (k == 0) = false := by simpa using k0
    have e1 : (k == 1) = false := by simpa using k1
    have e2 : (k == 2) = false := by simp; omega
    have e3 : (k == 3) = false := by simp; omega
    have e4 : (k == 4) = false := by simpa using k4
    have e5 : (k == 5) = false := by simpa using k5
    clear k0 k1 k2 k4 k5
    go_enter Tryd.func17, Tryd.ntmps17
    go_wp2
    go_ret
    exact ⟨by rw [HR.out]; rfl, (Below.refl _ _).alloc (Nat.le_refl _) _⟩

end Go.Proofs.YtimmgiiddckleaaDoor
