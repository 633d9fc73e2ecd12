/-
  The contract of the reference's Right, for every value; it makes memory of its own alone.
-/
import Derived.Test.YtimmgiiddckleaaDoorRunes
namespace Go.Proofs.YtimmgiiddckleaaDoor
open Go.RowKit

theorem ba_none {s : ByteArray} (h : s.size = 0) : s = noText := ba_empty' h rfl

set_option maxHeartbeats 4000000 in
set_option maxRecDepth 100000 in
theorem refRight_any (k i : Int) (s : ByteArray) (w : World) :
    Calls Tryd.prog 12 #[.agg #[.int .i64 k, .int .i64 i, .string s]] w (RightPost (rightD ⟨k, i, s⟩) w) := by
  by_cases h0 : k < 0
  · have HR : Hid (rightD ⟨k, i, s⟩ = false) := by unfold Hid rightD; simp only []; repeat (rw [if_neg (by omega)])
    go_enter Tryd.func12, Tryd.ntmps12
    go_wp2
    go_ret
    exact ⟨by rw [HR.out]; rfl, (Below.refl _ _).alloc (Nat.le_refl _) _⟩
  by_cases h5 : 5 < k
  · have HR : Hid (rightD ⟨k, i, s⟩ = false) := by unfold Hid rightD; simp only []; repeat (rw [if_neg (by omega)])
    go_enter Tryd.func12, Tryd.ntmps12
    go_wp2
    go_ret
    exact ⟨by rw [HR.out]; rfl, (Below.refl _ _).alloc (Nat.le_refl _) _⟩
  by_cases h4 : k < 4
  · by_cases hz : s.size = 0
    · obtain rfl := ba_none hz
      clear hz
      rcases (show k = 0 ∨ k = 1 ∨ (k = 2 ∨ k = 3) by omega) with rfl | rfl | h
      · have HR : Hid (rightD ⟨0, i, noText⟩ = (i == 0)) := by
          unfold Hid rightD
          rw [if_pos rfl, show decide ((⟨0, i, noText⟩ : Dat).s.size = 0) = true from rfl, Bool.and_true]
          rfl
        clear h0 h5 h4
        go_enter Tryd.func12, Tryd.ntmps12
        go_wp2
        go_ret
        exact ⟨by rw [HR.out]; rfl, (Below.refl _ _).alloc (Nat.le_refl _) _⟩
      · have HR : Hid (rightD ⟨1, i, noText⟩ = (i == 0 || i == 1)) := by
          unfold Hid rightD
          rw [if_neg (show ¬ ((1 : Int) = 0) by decide), if_pos rfl, show decide ((⟨1, i, noText⟩ : Dat).s.size = 0) = true from rfl, Bool.and_true]
          rfl
        clear h0 h5 h4
        by_cases hi : i = 0
        · subst hi
          go_enter Tryd.func12, Tryd.ntmps12
          go_wp2
          go_ret
          exact ⟨by rw [HR.out]; rfl, (Below.refl _ _).alloc (Nat.le_refl _) _⟩
        · have hib : (i == 0) = false := by simpa using hi
          clear hi
          go_enter Tryd.func12, Tryd.ntmps12
          go_wp2
          go_ret
          exact ⟨by rw [HR.out, hib]; rfl, (Below.refl _ _).alloc (Nat.le_refl _) _⟩
      · clear h0 h5 h4
        rcases h with rfl | rfl
        all_goals
          go_enter Tryd.func12, Tryd.ntmps12
          go_wp2_with (go_at_call 39; refine (runes_any noText _ (by decide)).mono ?_; rintro e w' ⟨n, rfl, hb⟩)
          go_ret
          exact ⟨rfl, ((Below.refl w.heap.size w).alloc (Nat.le_refl _) _).trans (hb.mono (by simp))⟩
    · have HR : Hid (rightD ⟨k, i, s⟩ = false) := by
        unfold Hid rightD
        rcases (show k = 0 ∨ k = 1 ∨ k = 2 ∨ k = 3 by omega) with rfl | rfl | rfl | rfl <;> simp [hz]
      have e1 : ¬ s.toList = [] := by
        intro h
        rw [ByteArray.toList_eq] at h
        have := congrArg List.length h
        rw [Array.length_toList] at this
        exact hz this
      have e3 : s.toList.isEmpty = false := by simpa using e1
      clear hz
      go_enter Tryd.func12, Tryd.ntmps12
      go_wp2
      go_ret
      exact ⟨by rw [HR.out]; rfl, (Below.refl _ _).alloc (Nat.le_refl _) _⟩
  · by_cases hi : i = 0
    · subst hi
      by_cases hz : s.size ≤ 1000
      · have hz' : ¬ ((1000 : Int) < s.size) := by omega
        have HZ := Lib.hid hz
        have hH : Hid (∀ w : World, Calls Tryd.prog 39 #[.string s] w (RunesPost (Lib.validD s.data.toList) w)) := fun w => runes_any s w hz
        rcases (show k = 4 ∨ k = 5 by omega) with rfl | rfl
        · have HR : Hid (rightD ⟨4, 0, s⟩ = Lib.validD s.data.toList) := by unfold Hid rightD; simp [hz]
          clear h0 h5 h4 hz
          revert hH HR
          generalize Lib.validD s.data.toList = V
          intro hH HR
          cases V
          all_goals
            go_enter Tryd.func12, Tryd.ntmps12
            go_wp2_with (go_at_call 39; refine (hH.out _).mono ?_; rintro e w' ⟨n, rfl, hb⟩; have d0 := ((Blk.new w #[.int .i64 4, .int .i64 0, .string s] 24).below hb).cell 0; simp only [List.getElem?_toArray, List.getElem?_cons_zero] at d0)
            go_ret
            exact ⟨by rw [HR.out]; rfl, ((Below.refl w.heap.size w).alloc (Nat.le_refl _) _).trans (hb.mono (by simp))⟩
        · have HR : Hid (rightD ⟨5, 0, s⟩ = true) := by unfold Hid rightD; simp [hz]
          clear h0 h5 h4 hz
          revert hH HR
          generalize Lib.validD s.data.toList = V
          intro hH HR
          cases V
          all_goals
            go_enter Tryd.func12, Tryd.ntmps12
            go_wp2_with (go_at_call 39; refine (hH.out _).mono ?_; rintro e w' ⟨n, rfl, hb⟩; have d0 := ((Blk.new w #[.int .i64 5, .int .i64 0, .string s] 24).below hb).cell 0; simp only [List.getElem?_toArray, List.getElem?_cons_zero] at d0)
            go_ret
            exact ⟨by rw [HR.out]; rfl, ((Below.refl w.heap.size w).alloc (Nat.le_refl _) _).trans (hb.mono (by simp))⟩
      · have hz' : (1000 : Int) < s.size := by omega
        have HR : Hid (rightD ⟨k, 0, s⟩ = false) := by
          unfold Hid rightD
          rcases (show k = 4 ∨ k = 5 by omega) with rfl | rfl <;> simp [hz]
        clear hz
        go_enter Tryd.func12, Tryd.ntmps12
        go_wp2
        go_ret
        exact ⟨by rw [HR.out]; rfl, (Below.refl _ _).alloc (Nat.le_refl _) _⟩
    · have HR : Hid (rightD ⟨k, i, s⟩ = false) := by
        unfold Hid rightD
        rcases (show k = 4 ∨ k = 5 by omega) with rfl | rfl <;> simp [hi]
      have hib : (i == 0) = false := by simpa using hi
      have hib' : (i != 0) = true := by simpa using hi
      clear hi
      go_enter Tryd.func12, Tryd.ntmps12
      go_wp2
      go_ret
      exact ⟨by rw [HR.out]; rfl, (Below.refl _ _).alloc (Nat.le_refl _) _⟩
end Go.Proofs.YtimmgiiddckleaaDoor
