/-
  The contracts of utf8.ValidString, of datum's Right and of the reference's Runes and Right, for every value; the tables of unicode/utf8 stand as their initialisers lay them.
  The contract of the reference's Runes: whether a text of at most 1000 bytes is UTF-8; it makes memory of its own alone.
  The contract of the reference's Right, for every value; it makes memory of its own alone.
  How many runes a text has: the reference's Runes and datum's runes tell the same number.
-/
import Derived.Test.YtippffjhkinfoaaGreatDoorCells
import Derived.Test.YtippffjhkinfoaaGreatDoorPosts
import Derived.Test.YtippffjhkinfoaaGreatDoorRowPure
import Derived.Test.YtippffjhkinfoaaGreatDoorRunesPure
import Derived.Test.YtippffjhkinfoaaGreatDoorShelf3
import Derived.Laws.RangeString
import Derived.Laws.RangeAny
namespace Go.Proofs.YtippffjhkinfoaaGreatDoor
open Go.RowKit

def Tabs (w : World) : Prop := Lib.Utf8Tabs (Tryz.laysValid_ren.g 3) (Tryz.laysValid_ren.g 4) w

theorem Tabs.below {w w' : World} (h : Tabs w) (hb : Below w.heap.size w w') : Tabs w' :=
  Utf8Tabs_below h hb

theorem valid_any (s : ByteArray) (w : World) (hs : s.size ≤ 1000) (hT : Tabs w) :
    Calls Tryz.prog 52 #[.string s] w (RightPost (Lib.validD s.data.toList) w) :=
  Any.utf8_ValidString Tryz.laysValid s w (by omega) hT

theorem empty_eq (s : ByteArray) : s.toList.isEmpty = decide (s.size = 0) := by
  rw [ByteArray.toList_eq, Bool.eq_iff_iff, List.isEmpty_iff, decide_eq_true_eq]
  constructor
  · intro h
    have := congrArg List.length h
    rw [Array.length_toList] at this
    exact this
  · intro h
    exact List.eq_nil_of_length_eq_zero (by rw [Array.length_toList]; exact h)

set_option maxHeartbeats 4000000 in
set_option maxRecDepth 100000 in
theorem right_any (k i : Int) (s : ByteArray) (w : World) (hT : Tabs w) :
    Calls Tryz.prog 27 #[.agg #[.int .i64 k, .int .i64 i, .string s]] w (RightPost (rightD ⟨k, i, s⟩) w) := by
  have hE := empty_eq s
  by_cases k0 : k = 0
  · have HR : Hid (rightD ⟨k, i, s⟩ = (decide (i = 0) && s.toList.isEmpty)) := by unfold Hid rightD; rw [hE]; simp [k0]
    clear hE
    subst k0
    go_enter Tryz.func27, Tryz.ntmps27
    go_wp2
    all_goals
      go_ret
      exact ⟨by rw [HR.out]; simp [*], (Below.refl _ _).alloc (Nat.le_refl _) _⟩
  by_cases k1 : k = 1
  · have HR : Hid (rightD ⟨k, i, s⟩ = ((decide (i = 0) || decide (i = 1)) && s.toList.isEmpty)) := by unfold Hid rightD; rw [hE]; simp [k1]
    clear hE k0
    subst k1
    go_enter Tryz.func27, Tryz.ntmps27
    go_wp2
    all_goals
      go_ret
      exact ⟨by rw [HR.out]; simp [*], (Below.refl _ _).alloc (Nat.le_refl _) _⟩
  by_cases k2 : k = 2 ∨ k = 3
  · have HR : Hid (rightD ⟨k, i, s⟩ = s.toList.isEmpty) := by unfold Hid rightD; rw [hE]; rcases k2 with rfl | rfl <;> simp
    clear hE k0 k1
    rcases k2 with rfl | rfl
    all_goals
      go_enter Tryz.func27, Tryz.ntmps27
      go_wp2
      go_ret
      exact ⟨by rw [HR.out]; rfl, (Below.refl _ _).alloc (Nat.le_refl _) _⟩
  clear hE
  by_cases k4 : k = 4
  · have HR : Hid (rightD ⟨k, i, s⟩ = (decide (i = 0) && (decide (s.size ≤ 1000) && Lib.validD s.data.toList))) := by unfold Hid rightD; simp [k4]
    clear k0 k1 k2
    subst k4
    have hV : Hid (s.size ≤ 1000 → Calls Tryz.prog 52 #[.string s] (w.alloc (.cells #[.int .i64 4, .int .i64 i, .string s] 27)) (RightPost (Lib.validD s.data.toList) (w.alloc (.cells #[.int .i64 4, .int .i64 i, .string s] 27)))) :=
      fun h => valid_any s _ h (hT.below ((Below.refl _ _).alloc (Nat.le_refl _) _))
    clear hT
    by_cases hi : i = 0
    · subst hi
      by_cases hz : s.size ≤ 1000
      · have hz' : (s.size : Int) ≤ 1000 := by omega
        have HZ := Lib.hid hz
        clear hz
        go_enter Tryz.func27, Tryz.ntmps27
        go_wp2_with (go_at_call 52; refine (hV.out HZ.out).mono ?_; rintro e w' ⟨rfl, hb⟩)
        go_ret
        exact ⟨by rw [HR.out]; simp [HZ.out], ((Below.refl w.heap.size w).alloc (Nat.le_refl _) _).trans (hb.mono (by simp))⟩
      · have hz' : ¬ ((s.size : Int) ≤ 1000) := by omega
        have HZ := Lib.hid hz
        clear hz
        go_enter Tryz.func27, Tryz.ntmps27
        go_wp2
        go_ret
        exact ⟨by rw [HR.out]; simp; intro h; exact absurd h HZ.out, (Below.refl _ _).alloc (Nat.le_refl _) _⟩
    · have hi' : (i == 0) = false := by simpa using hi
      have HI := Lib.hid hi
      clear hi
      go_enter Tryz.func27, Tryz.ntmps27
      go_wp2
      go_ret
      exact ⟨by rw [HR.out]; simp [HI.out], (Below.refl _ _).alloc (Nat.le_refl _) _⟩
  by_cases k5 : k = 5
  · have HR : Hid (rightD ⟨k, i, s⟩ = (decide (i = 0) && decide (s.size ≤ 1000))) := by unfold Hid rightD; simp [k5]
    clear k0 k1 k2 k4
    subst k5
    go_enter Tryz.func27, Tryz.ntmps27
    go_wp2
    all_goals
      go_ret
      exact ⟨by rw [HR.out]; simp [*] <;> omega, (Below.refl _ _).alloc (Nat.le_refl _) _⟩
  · have HR : Hid (rightD ⟨k, i, s⟩ = false) := by unfold Hid rightD; simp [k0, k1, k4, k5]; omega
    have e0 : (k == 0) = false := by simpa using k0
    have e1 : (k == 1) = false := by simpa using k1
    have e2 : (k == 2) = false := by simp; omega
    have e3 : (k == 3) = false := by simp; omega
    have e4 : (k == 4) = false := by simpa using k4
    have e5 : (k == 5) = false := by simpa using k5
    clear k0 k1 k2 k4 k5
    go_enter Tryz.func27, Tryz.ntmps27
    go_wp2
    go_ret
    exact ⟨by rw [HR.out]; rfl, (Below.refl _ _).alloc (Nat.le_refl _) _⟩

end Go.Proofs.YtippffjhkinfoaaGreatDoor

namespace Go.Proofs.YtippffjhkinfoaaGreatDoor
open Go.RowKit

/-- Runes tells b. -/
def RunesPost (b : Bool) (w : World) (e : Ending) (w' : World) : Prop := ∃ n : Int, e = .returned (.tuple #[.int .i64 n, .bool b]) ∧ Below w.heap.size w w'

set_option maxHeartbeats 4000000 in
set_option maxRecDepth 100000 in
theorem runes_any (s : ByteArray) (w : World) (hs : s.size ≤ 1000) :
    Calls Tryz.prog 33 #[.string s] w (RunesPost (Lib.validD s.data.toList) w) := by
  go_enter Tryz.func33, Tryz.ntmps33
  go_wp2
  go_loopw [4] (fun n wr => ∃ (pos : Nat) (c : Int), wr = w.iter s pos ∧ n = .int .i64 c ∧ 0 ≤ c ∧ c ≤ pos ∧ pos ≤ s.size ∧ Lib.validD (s.data.toList.drop pos) = Lib.validD s.data.toList) (fun _ wr => s.size - wr.iterPos w.heap.size)
  case atStart => exact ⟨0, 0, rfl, rfl, by omega, by omega, by omega, by rw [List.drop_zero]⟩
  case round =>
    obtain ⟨pos, c, rfl, rfl, hc0, hc1, hpos, hv⟩ := hrel
    have HV := Lib.hid hv
    clear hv
    by_cases hp : pos < s.size
    · have hnx : ∀ ty, (Instr.next (.pointer (some ⟨w.heap.size, 0, none⟩)) true ty).run Tryz.prog (w.iter s pos) = _ := fun ty => run_next_any w s pos ty hp
      have HE := Lib.hid (rune_err s pos hp)
      have HA := Lib.hid (validD_at s pos hp)
      have HW := Lib.hid (width_ok s pos hp)
      revert hnx HE HA HW
      generalize (Utf8.decode s pos).1 = r
      generalize (Utf8.decode s pos).2 = d
      intro hnx HE HA HW
      by_cases hr : r = 65533
      · rcases HE.out hr with ⟨hd, h3 | ⟨h3, hx⟩⟩ | ⟨hd, h3, hx⟩
        · have hf : Lib.validD s.data.toList = false := by rw [← HV.out, HA.out, if_pos ⟨hr, hd⟩]
          have HF := Lib.hid hf
          have h3z : (s.size : Int) < pos + 3 := by omega
          subst hr
          clear hf hd HE HA HV
          go_wp2
          go_ret2
          exact ⟨_, by rw [HF.out]; rfl, (Below.refl _ _).alloc (Nat.le_refl _) _⟩
        · have hf : Lib.validD s.data.toList = false := by rw [← HV.out, HA.out, if_pos ⟨hr, hd⟩]
          have HF := Lib.hid hf
          have h3z : ¬ ((s.size : Int) < pos + 3) := by omega
          have hxt : (!(s.extract pos (pos + 3)).toList == [239, 191, 189]) = true := by
            simp only [Bool.not_eq_true', beq_eq_false_iff_ne]
            intro e
            rw [ByteArray.toList_eq] at e
            exact hx (ba_eq e)
          subst hr
          clear hf hd HE HA HV hx
          go_wp2
          go_ret2
          exact ⟨_, by rw [HF.out]; rfl, (Below.refl _ _).alloc (Nat.le_refl _) _⟩
        · have h3z : ¬ ((s.size : Int) < pos + 3) := by omega
          have hxt : (!(s.extract pos (pos + 3)).toList == [239, 191, 189]) = false := by
            rw [hx, ByteArray.toList_eq]; rfl
          have HD := Lib.hid hd
          subst hr
          clear HE hx hd
          go_wp2
          go_roundw
          case rel =>
            have h1 := HW.out
            refine ⟨pos + d, c + 1, rfl, rfl, by omega, by omega, by omega, ?_⟩
            rw [← HV.out, HA.out, if_neg (fun h => by have := HD.out; omega)]
          case measure => have h1 := HW.out; simp; omega
      · have hrb : ((r : Int) == 65533) = false := by simp; omega
        have HN := Lib.hid hr
        clear hr
        go_wp2
        go_roundw
        case rel =>
          have h1 := HW.out
          refine ⟨pos + d, c + 1, rfl, rfl, by omega, by omega, by omega, ?_⟩
          rw [← HV.out, HA.out, if_neg (fun h => HN.out h.1)]
        case measure => have h1 := HW.out; simp; omega
    · obtain rfl : pos = s.size := by omega
      have hnx : ∀ ty, (Instr.next (.pointer (some ⟨w.heap.size, 0, none⟩)) true ty).run Tryz.prog (w.iter s s.size) = _ := fun ty => run_next_end w s s.size ty hp
      have hf : Lib.validD s.data.toList = true := by rw [← HV.out, List.drop_eq_nil_of_le (by rw [Array.length_toList]; exact Nat.le_refl _)]; rfl
      have HF := Lib.hid hf
      clear hf
      go_wp2
      go_ret2
      exact ⟨_, by rw [HF.out]; rfl, (Below.refl _ _).alloc (Nat.le_refl _) _⟩
end Go.Proofs.YtippffjhkinfoaaGreatDoor

namespace Go.Proofs.YtippffjhkinfoaaGreatDoor
open Go.RowKit

theorem ba_none {s : ByteArray} (h : s.size = 0) : s = noText := ba_empty' h rfl

set_option maxHeartbeats 4000000 in
set_option maxRecDepth 100000 in
theorem refRight_any (k i : Int) (s : ByteArray) (w : World) :
    Calls Tryz.prog 14 #[.agg #[.int .i64 k, .int .i64 i, .string s]] w (RightPost (rightD ⟨k, i, s⟩) w) := by
  by_cases h0 : k < 0
  · have HR : Hid (rightD ⟨k, i, s⟩ = false) := by unfold Hid rightD; simp only []; repeat (rw [if_neg (by omega)])
    go_enter Tryz.func14, Tryz.ntmps14
    go_wp2
    go_ret
    exact ⟨by rw [HR.out]; rfl, (Below.refl _ _).alloc (Nat.le_refl _) _⟩
  by_cases h5 : 5 < k
  · have HR : Hid (rightD ⟨k, i, s⟩ = false) := by unfold Hid rightD; simp only []; repeat (rw [if_neg (by omega)])
    go_enter Tryz.func14, Tryz.ntmps14
    go_wp2
    go_ret
    exact ⟨by rw [HR.out]; rfl, (Below.refl _ _).alloc (Nat.le_refl _) _⟩
  by_cases h4 : k < 4
  · by_cases hz : s.size = 0
    · obtain rfl := ba_none hz
      clear hz
      rcases (show k = 0 ∨ k = 1 ∨ (k = 2 ∨ k = 3) by omega) with rfl | rfl | h
      · have HR : Hid (rightD ⟨0, i, noText⟩ = (i == 0)) := by
          unfold Hid rightD
          rw [if_pos rfl, show decide ((⟨0, i, noText⟩ : Dat).s.size = 0) = true from rfl, Bool.and_true]
          rfl
        clear h0 h5 h4
        go_enter Tryz.func14, Tryz.ntmps14
        go_wp2
        go_ret
        exact ⟨by rw [HR.out]; rfl, (Below.refl _ _).alloc (Nat.le_refl _) _⟩
      · have HR : Hid (rightD ⟨1, i, noText⟩ = (i == 0 || i == 1)) := by
          unfold Hid rightD
          rw [if_neg (show ¬ ((1 : Int) = 0) by decide), if_pos rfl, show decide ((⟨1, i, noText⟩ : Dat).s.size = 0) = true from rfl, Bool.and_true]
          rfl
        clear h0 h5 h4
        by_cases hi : i = 0
        · subst hi
          go_enter Tryz.func14, Tryz.ntmps14
          go_wp2
          go_ret
          exact ⟨by rw [HR.out]; rfl, (Below.refl _ _).alloc (Nat.le_refl _) _⟩
        · have hib : (i == 0) = false := by simpa using hi
          clear hi
          go_enter Tryz.func14, Tryz.ntmps14
          go_wp2
          go_ret
          exact ⟨by rw [HR.out, hib]; rfl, (Below.refl _ _).alloc (Nat.le_refl _) _⟩
      · clear h0 h5 h4
        rcases h with rfl | rfl
        all_goals
          go_enter Tryz.func14, Tryz.ntmps14
          go_wp2_with (go_at_call 33; refine (runes_any noText _ (by decide)).mono ?_; rintro e w' ⟨n, rfl, hb⟩)
          go_ret
          exact ⟨rfl, ((Below.refl w.heap.size w).alloc (Nat.le_refl _) _).trans (hb.mono (by simp))⟩
    · have HR : Hid (rightD ⟨k, i, s⟩ = false) := by
        unfold Hid rightD
        rcases (show k = 0 ∨ k = 1 ∨ k = 2 ∨ k = 3 by omega) with rfl | rfl | rfl | rfl <;> simp [hz]
      have e1 : ¬ s.toList = [] := by
        intro h
        rw [ByteArray.toList_eq] at h
        have := congrArg List.length h
        rw [Array.length_toList] at this
        exact hz this
      have e3 : s.toList.isEmpty = false := by simpa using e1
      clear hz
      go_enter Tryz.func14, Tryz.ntmps14
      go_wp2
      go_ret
      exact ⟨by rw [HR.out]; rfl, (Below.refl _ _).alloc (Nat.le_refl _) _⟩
  · by_cases hi : i = 0
    · subst hi
      by_cases hz : s.size ≤ 1000
      · have hz' : ¬ ((1000 : Int) < s.size) := by omega
        have HZ := Lib.hid hz
        have hH : Hid (∀ w : World, Calls Tryz.prog 33 #[.string s] w (RunesPost (Lib.validD s.data.toList) w)) := fun w => runes_any s w hz
        rcases (show k = 4 ∨ k = 5 by omega) with rfl | rfl
        · have HR : Hid (rightD ⟨4, 0, s⟩ = Lib.validD s.data.toList) := by unfold Hid rightD; simp [hz]
          clear h0 h5 h4 hz
          revert hH HR
          generalize Lib.validD s.data.toList = V
          intro hH HR
          cases V
          all_goals
            go_enter Tryz.func14, Tryz.ntmps14
            go_wp2_with (go_at_call 33; refine (hH.out _).mono ?_; rintro e w' ⟨n, rfl, hb⟩; have d0 := ((Blk.new w #[.int .i64 4, .int .i64 0, .string s] 27).below hb).cell 0; simp only [List.getElem?_toArray, List.getElem?_cons_zero] at d0)
            go_ret
            exact ⟨by rw [HR.out]; rfl, ((Below.refl w.heap.size w).alloc (Nat.le_refl _) _).trans (hb.mono (by simp))⟩
        · have HR : Hid (rightD ⟨5, 0, s⟩ = true) := by unfold Hid rightD; simp [hz]
          clear h0 h5 h4 hz
          revert hH HR
          generalize Lib.validD s.data.toList = V
          intro hH HR
          cases V
          all_goals
            go_enter Tryz.func14, Tryz.ntmps14
            go_wp2_with (go_at_call 33; refine (hH.out _).mono ?_; rintro e w' ⟨n, rfl, hb⟩; have d0 := ((Blk.new w #[.int .i64 5, .int .i64 0, .string s] 27).below hb).cell 0; simp only [List.getElem?_toArray, List.getElem?_cons_zero] at d0)
            go_ret
            exact ⟨by rw [HR.out]; rfl, ((Below.refl w.heap.size w).alloc (Nat.le_refl _) _).trans (hb.mono (by simp))⟩
      · have hz' : (1000 : Int) < s.size := by omega
        have HR : Hid (rightD ⟨k, 0, s⟩ = false) := by
          unfold Hid rightD
          rcases (show k = 4 ∨ k = 5 by omega) with rfl | rfl <;> simp [hz]
        clear hz
        go_enter Tryz.func14, Tryz.ntmps14
        go_wp2
        go_ret
        exact ⟨by rw [HR.out]; rfl, (Below.refl _ _).alloc (Nat.le_refl _) _⟩
    · have HR : Hid (rightD ⟨k, i, s⟩ = false) := by
        unfold Hid rightD
        rcases (show k = 4 ∨ k = 5 by omega) with rfl | rfl <;> simp [hi]
      have hib : (i == 0) = false := by simpa using hi
      have hib' : (i != 0) = true := by simpa using hi
      clear hi
      go_enter Tryz.func14, Tryz.ntmps14
      go_wp2
      go_ret
      exact ⟨by rw [HR.out]; rfl, (Below.refl _ _).alloc (Nat.le_refl _) _⟩
end Go.Proofs.YtippffjhkinfoaaGreatDoor

namespace Go.Proofs.YtippffjhkinfoaaGreatDoor
open Go.RowKit

/-- How many runes there are from a place on. -/
def runeC (s : ByteArray) (pos : Nat) : Nat := if h : pos < s.size then runeC s (pos + max 1 (Utf8.decode s pos).2) + 1 else 0
termination_by s.size - pos
theorem runeC_end (s : ByteArray) (pos : Nat) (h : s.size ≤ pos) : runeC s pos = 0 := by
  unfold runeC
  rw [dif_neg (by omega)]
theorem runeC_step (s : ByteArray) (pos : Nat) (h : pos < s.size) : runeC s pos = runeC s (pos + (Utf8.decode s pos).2) + 1 := by
  have hw := (width_ok s pos h).1
  rw [runeC, dif_pos h, show max 1 (Utf8.decode s pos).2 = (Utf8.decode s pos).2 by omega]
theorem runeC_le (s : ByteArray) (pos : Nat) (h : pos ≤ s.size) : runeC s pos ≤ s.size - pos := by
  obtain ⟨n, hn⟩ : ∃ n, n = s.size - pos := ⟨_, rfl⟩
  induction n using Nat.strongRecOn generalizing pos with
  | ind n ih =>
    by_cases hp : pos < s.size
    · have hw := width_ok s pos hp
      rw [runeC_step s pos hp]
      have := ih (s.size - (pos + (Utf8.decode s pos).2)) (by omega) _ hw.2 rfl
      omega
    · rw [runeC_end s pos (by omega)]; omega

set_option maxHeartbeats 4000000 in
set_option maxRecDepth 100000 in
theorem runes_cnt (s : ByteArray) (w : World) (hs : s.size ≤ 1000) :
    Calls Tryz.prog 33 #[.string s] w fun e w' => ∃ n : Int, e = .returned (.tuple #[.int .i64 n, .bool (Lib.validD s.data.toList)]) ∧ (Lib.validD s.data.toList = true → n = runeC s 0) ∧ Below w.heap.size w w' := by
  go_enter Tryz.func33, Tryz.ntmps33
  go_wp2
  go_loopw [4] (fun n wr => ∃ (pos : Nat) (c : Int), wr = w.iter s pos ∧ n = .int .i64 c ∧ 0 ≤ c ∧ c ≤ pos ∧ pos ≤ s.size ∧ Lib.validD (s.data.toList.drop pos) = Lib.validD s.data.toList ∧ Hid (c + runeC s pos = runeC s 0)) (fun _ wr => s.size - wr.iterPos w.heap.size)
  case atStart => exact ⟨0, 0, rfl, rfl, by omega, by omega, by omega, by rw [List.drop_zero], by unfold Hid; omega⟩
  case round =>
    obtain ⟨pos, c, rfl, rfl, hc0, hc1, hpos, hv, HC⟩ := hrel
    have HV := Lib.hid hv
    clear hv
    by_cases hp : pos < s.size
    · have hnx : ∀ ty, (Instr.next (.pointer (some ⟨w.heap.size, 0, none⟩)) true ty).run Tryz.prog (w.iter s pos) = _ := fun ty => run_next_any w s pos ty hp
      have HE := Lib.hid (rune_err s pos hp)
      have HA := Lib.hid (validD_at s pos hp)
      have HW := Lib.hid (width_ok s pos hp)
      have HK := Lib.hid (runeC_step s pos hp)
      revert hnx HE HA HW HK
      generalize (Utf8.decode s pos).1 = r
      generalize (Utf8.decode s pos).2 = d
      intro hnx HE HA HW HK
      by_cases hr : r = 65533
      · rcases HE.out hr with ⟨hd, h3 | ⟨h3, hx⟩⟩ | ⟨hd, h3, hx⟩
        · have hf : Lib.validD s.data.toList = false := by rw [← HV.out, HA.out, if_pos ⟨hr, hd⟩]
          have HF := Lib.hid hf
          have h3z : (s.size : Int) < pos + 3 := by omega
          subst hr
          clear hf hd HE HA HV
          go_wp2
          go_ret2
          exact ⟨_, by rw [HF.out]; rfl, fun h => (by rw [HF.out] at h; cases h), (Below.refl _ _).alloc (Nat.le_refl _) _⟩
        · have hf : Lib.validD s.data.toList = false := by rw [← HV.out, HA.out, if_pos ⟨hr, hd⟩]
          have HF := Lib.hid hf
          have h3z : ¬ ((s.size : Int) < pos + 3) := by omega
          have hxt : (!(s.extract pos (pos + 3)).toList == [239, 191, 189]) = true := by
            simp only [Bool.not_eq_true', beq_eq_false_iff_ne]
            intro e
            rw [ByteArray.toList_eq] at e
            exact hx (ba_eq e)
          subst hr
          clear hf hd HE HA HV hx
          go_wp2
          go_ret2
          exact ⟨_, by rw [HF.out]; rfl, fun h => (by rw [HF.out] at h; cases h), (Below.refl _ _).alloc (Nat.le_refl _) _⟩
        · have h3z : ¬ ((s.size : Int) < pos + 3) := by omega
          have hxt : (!(s.extract pos (pos + 3)).toList == [239, 191, 189]) = false := by
            rw [hx, ByteArray.toList_eq]; rfl
          have HD := Lib.hid hd
          subst hr
          clear HE hx hd
          go_wp2
          go_roundw
          case rel =>
            have h1 := HW.out
            refine ⟨pos + d, c + 1, rfl, rfl, by omega, by omega, by omega, ?_, ?_⟩
            · rw [← HV.out, HA.out, if_neg (fun h => by have := HD.out; omega)]
            · have := HC.out; have := HK.out; unfold Hid; omega
          case measure => have h1 := HW.out; simp; omega
      · have hrb : ((r : Int) == 65533) = false := by simp; omega
        have HN := Lib.hid hr
        clear hr
        go_wp2
        go_roundw
        case rel =>
          have h1 := HW.out
          refine ⟨pos + d, c + 1, rfl, rfl, by omega, by omega, by omega, ?_, ?_⟩
          · rw [← HV.out, HA.out, if_neg (fun h => HN.out h.1)]
          · have := HC.out; have := HK.out; unfold Hid; omega
        case measure => have h1 := HW.out; simp; omega
    · obtain rfl : pos = s.size := by omega
      have hnx : ∀ ty, (Instr.next (.pointer (some ⟨w.heap.size, 0, none⟩)) true ty).run Tryz.prog (w.iter s s.size) = _ := fun ty => run_next_end w s s.size ty hp
      have hf : Lib.validD s.data.toList = true := by rw [← HV.out, List.drop_eq_nil_of_le (by rw [Array.length_toList]; exact Nat.le_refl _)]; rfl
      have HF := Lib.hid hf
      clear hf
      go_wp2
      go_ret2
      exact ⟨_, by rw [HF.out]; rfl, fun _ => (by have := HC.out; rw [runeC_end s s.size (Nat.le_refl _)] at this; omega), (Below.refl _ _).alloc (Nat.le_refl _) _⟩

set_option maxHeartbeats 4000000 in
set_option maxRecDepth 100000 in
theorem cnt_any (s : ByteArray) (w : World) (hs : s.size ≤ 1000) :
    Calls Tryz.prog 113 #[.string s] w fun e w' => e = .returned (.int .i64 (runeC s 0)) ∧ Below w.heap.size w w' := by
  go_enter Tryz.func113, Tryz.ntmps113
  go_wp2
  go_loopw [3] (fun n wr => ∃ pos c : Nat, wr = w.iter s pos ∧ n = .int .i64 (c : Int) ∧ c ≤ pos ∧ pos ≤ s.size ∧ Hid (c + runeC s pos = runeC s 0)) (fun _ wr => s.size - wr.iterPos w.heap.size)
  case atStart => exact ⟨0, 0, rfl, rfl, by omega, by omega, by unfold Hid; omega⟩
  case round =>
    obtain ⟨pos, c, rfl, rfl, hc1, hpos, HC⟩ := hrel
    by_cases hp : pos < s.size
    · have hnx : ∀ ty, (Instr.next (.pointer (some ⟨w.heap.size, 0, none⟩)) true ty).run Tryz.prog (w.iter s pos) = _ := fun ty => run_next_any w s pos ty hp
      have HW := Lib.hid (width_ok s pos hp)
      have HK := Lib.hid (runeC_step s pos hp)
      revert hnx HW HK
      generalize (Utf8.decode s pos).1 = r
      generalize (Utf8.decode s pos).2 = d
      intro hnx HW HK
      go_wp2
      have h1 := HW.out
      have h2 := HC.out
      have h3 := HK.out
      refine ⟨⟨pos + d, c + 1, rfl, by go_num, by omega, by omega, by unfold Hid; omega⟩, ?_⟩
      simp; omega
    · obtain rfl : pos = s.size := by omega
      have hnx : ∀ ty, (Instr.next (.pointer (some ⟨w.heap.size, 0, none⟩)) true ty).run Tryz.prog (w.iter s s.size) = _ := fun ty => run_next_end w s s.size ty hp
      have HF : Hid (runeC s 0 = c) := by have := HC.out; rw [runeC_end s s.size (Nat.le_refl _)] at this; unfold Hid; omega
      go_wp2
      go_ret
      exact ⟨by rw [HF.out]; rfl, (Below.refl _ _).alloc (Nat.le_refl _) _⟩

end Go.Proofs.YtippffjhkinfoaaGreatDoor
