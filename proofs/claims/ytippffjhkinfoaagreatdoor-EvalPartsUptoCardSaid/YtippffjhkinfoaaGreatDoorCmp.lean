/-
  The contracts of what datum.Compare calls: what each returns, for all arguments; no conditions.
-/
import Derived.Test.YtippffjhkinfoaaGreatDoorRows
import Derived.Test.YtippffjhkinfoaaGreatDoorPure
import Derived.WalkKit
import Derived.WalkSpells
import Derived.WalkLawsBesides
import Derived.Lib.Strings
import Derived.Lib.Slices
import Derived.Lib.Walk
import Derived.Lib.Hide
import Derived.Lib.Bytealg
namespace Go.Proofs.YtippffjhkinfoaaGreatDoor
open Go.RowKit

set_option maxHeartbeats 1000000 in
set_option maxRecDepth 100000 in
theorem compareString_any (a b : ByteArray) (w : World) :
    Calls Tryz.prog 134 #[.string a, .string b] w fun e w' => e = .returned (.int .i64 (Lib.compareBytes a.data.toList b.data.toList)) ∧ w = w' := by
  go_enter Tryz.func134, Tryz.ntmps134
  go_wp2
  rw [run_callFunc_extern Tryz.func136 (by kernel_rfl) (by kernel_rfl) (by kernel_rfl) (e := Extern.BytealgCompare.compare) (by kernel_rfl), Lib.run_compareString]
  simp only [Result.andThen]
  rw [Oper.upon_value]
  go_wp2
  go_ret
  exact ⟨rfl, rfl⟩

set_option maxHeartbeats 1000000 in
theorem strCompare_any (a b : ByteArray) (w : World) :
    Calls Tryz.prog 127 #[.string a, .string b] w fun e w' => e = .returned (.int .i64 (Lib.compareBytes a.data.toList b.data.toList)) ∧ w = w' := by
  go_enter Tryz.func127, Tryz.ntmps127
  go_wp2_with (go_at_call 134; refine (compareString_any _ _ _).mono ?_; rintro e w' ⟨rfl, rfl⟩)
  go_ret
  exact ⟨rfl, rfl⟩

theorem isNaN8 (a : Int) (w : World) : Calls Tryz.prog 133 #[.int .i64 a] w fun e w' => e = .returned (.bool false) ∧ w = w' := by
  go_enter Tryz.func133, Tryz.ntmps133
  go_wp2
  go_ret
  exact ⟨by simp, rfl⟩

theorem isNaN9 (a : Int) (w : World) : Calls Tryz.prog 132 #[.int .i64 a] w fun e w' => e = .returned (.bool false) ∧ w = w' := by
  go_enter Tryz.func132, Tryz.ntmps132
  go_wp2
  go_ret
  exact ⟨by simp, rfl⟩

set_option maxHeartbeats 1000000 in
theorem cmpInt_any (a b : Int) (w : World) : Calls Tryz.prog 126 #[.int .i64 a, .int .i64 b] w fun e w' => e = .returned (.int .i64 (ordI a b)) ∧ w = w' := by
  by_cases h : a < b
  · have hr : ordI a b = -1 := by unfold ordI; rw [if_pos h]
    have HR := Lib.hid hr
    clear hr
    go_enter Tryz.func126, Tryz.ntmps126
    go_wp2_with (go_at_call 133; refine (isNaN8 _ _).mono ?_; rintro e w' ⟨rfl, rfl⟩)
    go_ret
    exact ⟨by rw [HR.out]; rfl, rfl⟩
  · by_cases h2 : b < a
    · have hr : ordI a b = 1 := by unfold ordI; rw [if_neg h, if_pos h2]
      have HR := Lib.hid hr
      clear hr
      go_enter Tryz.func126, Tryz.ntmps126
      go_wp2_with (go_at_call 133; refine (isNaN8 _ _).mono ?_; rintro e w' ⟨rfl, rfl⟩)
      go_ret
      exact ⟨by rw [HR.out]; rfl, rfl⟩
    · have hr : ordI a b = 0 := by unfold ordI; rw [if_neg h, if_neg h2]
      have HR := Lib.hid hr
      clear hr
      go_enter Tryz.func126, Tryz.ntmps126
      go_wp2_with (go_at_call 133; refine (isNaN8 _ _).mono ?_; rintro e w' ⟨rfl, rfl⟩)
      go_ret
      exact ⟨by rw [HR.out]; rfl, rfl⟩

set_option maxHeartbeats 1000000 in
theorem cmpInt64_any (a b : Int) (w : World) : Calls Tryz.prog 125 #[.int .i64 a, .int .i64 b] w fun e w' => e = .returned (.int .i64 (ordI a b)) ∧ w = w' := by
  by_cases h : a < b
  · have hr : ordI a b = -1 := by unfold ordI; rw [if_pos h]
    have HR := Lib.hid hr
    clear hr
    go_enter Tryz.func125, Tryz.ntmps125
    go_wp2_with (go_at_call 132; refine (isNaN9 _ _).mono ?_; rintro e w' ⟨rfl, rfl⟩)
    go_ret
    exact ⟨by rw [HR.out]; rfl, rfl⟩
  · by_cases h2 : b < a
    · have hr : ordI a b = 1 := by unfold ordI; rw [if_neg h, if_pos h2]
      have HR := Lib.hid hr
      clear hr
      go_enter Tryz.func125, Tryz.ntmps125
      go_wp2_with (go_at_call 132; refine (isNaN9 _ _).mono ?_; rintro e w' ⟨rfl, rfl⟩)
      go_ret
      exact ⟨by rw [HR.out]; rfl, rfl⟩
    · have hr : ordI a b = 0 := by unfold ordI; rw [if_neg h, if_neg h2]
      have HR := Lib.hid hr
      clear hr
      go_enter Tryz.func125, Tryz.ntmps125
      go_wp2_with (go_at_call 132; refine (isNaN9 _ _).mono ?_; rintro e w' ⟨rfl, rfl⟩)
      go_ret
      exact ⟨by rw [HR.out]; rfl, rfl⟩

set_option maxHeartbeats 1000000 in
theorem compare_any (k1 i1 : Int) (s1 : ByteArray) (k2 i2 : Int) (s2 : ByteArray) (w : World) :
    Calls Tryz.prog 116 #[.agg #[.int .i64 k1, .int .i64 i1, .string s1], .agg #[.int .i64 k2, .int .i64 i2, .string s2]] w fun e w' => e = .returned (.int .i64 (ordD k1 i1 s1 k2 i2 s2)) ∧ Below w.heap.size w w' := by
  by_cases hk : k1 = k2
  · by_cases hi : i1 = i2
    · have hr : ordD k1 i1 s1 k2 i2 s2 = Lib.compareBytes s1.data.toList s2.data.toList := by unfold ordD; rw [if_pos hk, if_pos hi]
      subst hk hi
      have HR := Lib.hid hr
      clear hr
      go_enter Tryz.func116, Tryz.ntmps116
      go_wp2_with (go_at_call 127; refine (strCompare_any _ _ _).mono ?_; rintro e w' ⟨rfl, rfl⟩)
      go_ret
      exact ⟨by rw [HR.out]; rfl, ((Below.refl _ _).alloc (Nat.le_refl _) _).alloc (by simp) _⟩
    · have hr : ordD k1 i1 s1 k2 i2 s2 = ordI i1 i2 := by unfold ordD; rw [if_pos hk, if_neg hi]
      subst hk
      have HR := Lib.hid hr
      clear hr
      have hb : (i1 == i2) = false := by simpa using hi
      have hb' : (i1 != i2) = true := by simpa using hi
      clear hi
      go_enter Tryz.func116, Tryz.ntmps116
      go_wp2_with (go_at_call 125; refine (cmpInt64_any _ _ _).mono ?_; rintro e w' ⟨rfl, rfl⟩)
      go_ret
      exact ⟨by rw [HR.out]; rfl, ((Below.refl _ _).alloc (Nat.le_refl _) _).alloc (by simp) _⟩
  · have hr : ordD k1 i1 s1 k2 i2 s2 = ordI k1 k2 := by unfold ordD; rw [if_neg hk]
    have HR := Lib.hid hr
    clear hr
    have hb : (k1 == k2) = false := by simpa using hk
    have hb' : (k1 != k2) = true := by simpa using hk
    clear hk
    go_enter Tryz.func116, Tryz.ntmps116
    go_wp2_with (go_at_call 126; refine (cmpInt_any _ _ _).mono ?_; rintro e w' ⟨rfl, rfl⟩)
    go_ret
    exact ⟨by rw [HR.out]; rfl, ((Below.refl _ _).alloc (Nat.le_refl _) _).alloc (by simp) _⟩

end Go.Proofs.YtippffjhkinfoaaGreatDoor
