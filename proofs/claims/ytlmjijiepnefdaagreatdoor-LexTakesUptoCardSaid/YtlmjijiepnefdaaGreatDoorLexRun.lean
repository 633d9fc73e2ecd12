/-
  The contracts of lex's kinds of runes, and of run at each of them.
-/
import Derived.Test.YtlmjijiepnefdaaGreatDoorLexP
import Derived.Test.YtlmjijiepnefdaaGreatDoorProg
import Derived.Test.YtlmjijiepnefdaaGreatDoorRows
import Derived.WalkKit
import Derived.Below
import Derived.Lib.Hide
import Derived.Lib.Walk
import Derived.Laws.RangeAny
import Derived.Laws.RangeString
import Derived.LoopTactic
import Derived.BigCall
import Derived.BigFrame
import Derived.Outline
namespace Go.Proofs.YtlmjijiepnefdaaGreatDoor
open Go.RowKit

/-- A bool comes back, and nothing turns. -/
def BoolSame (b : Bool) (w : World) (e : Ending) (w' : World) : Prop := e = .returned (.bool b) ∧ w = w'

set_option maxRecDepth 100000 in
theorem blank_any (r : Int) (w : World) : Calls Tryz.prog 31 #[.int .i32 r] w (BoolSame (blankI r) w) := by
  by_cases a32 : r = 32
  · subst a32
    have H : Hid (blankI 32 = true) := rfl
    go_enter Tryz.func31, Tryz.ntmps31
    go_wp2
    go_ret
    exact ⟨by rw [H.out]; first | rfl | (simp; omega) | (simp [bne, *]; done), rfl⟩
  have e32 : (r == 32) = false := by simpa using a32
  by_cases a9 : r = 9
  · subst a9
    have H : Hid (blankI 9 = true) := rfl
    go_enter Tryz.func31, Tryz.ntmps31
    go_wp2
    go_ret
    exact ⟨by rw [H.out]; first | rfl | (simp; omega) | (simp [bne, *]; done), rfl⟩
  have e9 : (r == 9) = false := by simpa using a9
  by_cases a10 : r = 10
  · subst a10
    have H : Hid (blankI 10 = true) := rfl
    go_enter Tryz.func31, Tryz.ntmps31
    go_wp2
    go_ret
    exact ⟨by rw [H.out]; first | rfl | (simp; omega) | (simp [bne, *]; done), rfl⟩
  have e10 : (r == 10) = false := by simpa using a10
  by_cases a13 : r = 13
  · subst a13
    have H : Hid (blankI 13 = true) := rfl
    go_enter Tryz.func31, Tryz.ntmps31
    go_wp2
    go_ret
    exact ⟨by rw [H.out]; first | rfl | (simp; omega) | (simp [bne, *]; done), rfl⟩
  have e13 : (r == 13) = false := by simpa using a13
  have H : Hid (blankI r = false) := by unfold Hid blankI; simp [a32, a9, a10, a13]
  clear a32 a9 a10 a13
  go_enter Tryz.func31, Tryz.ntmps31
  go_wp2
  go_ret
  exact ⟨by rw [H.out]; first | rfl | (simp; omega) | (simp [bne, *]; done), rfl⟩

set_option maxRecDepth 100000 in
theorem line_any (r : Int) (w : World) : Calls Tryz.prog 33 #[.int .i32 r] w (BoolSame (lineI r) w) := by
  by_cases a : r = 10
  · subst a
    have H : Hid (lineI 10 = false) := rfl
    go_enter Tryz.func33, Tryz.ntmps33
    go_wp2
    go_ret
    exact ⟨by rw [H.out]; first | rfl | (simp; omega) | (simp [bne, *]; done), rfl⟩
  have e : (r == 10) = false := by simpa using a
  have H : Hid (lineI r = true) := by unfold Hid lineI; simp [a]
  clear a
  go_enter Tryz.func33, Tryz.ntmps33
  go_wp2
  go_ret
  exact ⟨by rw [H.out]; first | rfl | (simp; omega) | (simp [bne, *]; done), rfl⟩

set_option maxRecDepth 100000 in
theorem letter_any (r : Int) (w : World) : Calls Tryz.prog 35 #[.int .i32 r] w (BoolSame (letterI r) w) := by
  by_cases c : r ≤ 64
  · have H : Hid (letterI r = false) := by unfold Hid letterI; simp; omega
    have q2 : r ≤ 64 := by omega
    have q3 : (r == 95) = false := by simp; omega
    clear c
    go_enter Tryz.func35, Tryz.ntmps35
    go_wp2
    go_ret
    exact ⟨by rw [H.out]; first | rfl | (simp; omega) | (simp [bne, *]; done), rfl⟩
  by_cases c : 65 ≤ r ∧ r ≤ 90
  · have H : Hid (letterI r = true) := by unfold Hid letterI; simp; omega
    have q1 : 65 ≤ r := by omega
    have q2 : r ≤ 90 := by omega
    clear c
    go_enter Tryz.func35, Tryz.ntmps35
    go_wp2
    go_ret
    exact ⟨by rw [H.out]; first | rfl | (simp; omega) | (simp [bne, *]; done), rfl⟩
  by_cases c : 91 ≤ r ∧ r ≤ 94
  · have H : Hid (letterI r = false) := by unfold Hid letterI; simp; omega
    have q1 : 91 ≤ r := by omega
    have q2 : r ≤ 94 := by omega
    have q3 : (r == 95) = false := by simp; omega
    clear c
    go_enter Tryz.func35, Tryz.ntmps35
    go_wp2
    go_ret
    exact ⟨by rw [H.out]; first | rfl | (simp; omega) | (simp [bne, *]; done), rfl⟩
  by_cases c : r = 95
  · subst c
    have H : Hid (letterI 95 = true) := rfl
    go_enter Tryz.func35, Tryz.ntmps35
    go_wp2
    go_ret
    exact ⟨by rw [H.out]; first | rfl | (simp; omega) | (simp [bne, *]; done), rfl⟩
  by_cases c : 96 ≤ r ∧ r ≤ 96
  · have H : Hid (letterI r = false) := by unfold Hid letterI; simp; omega
    have q1 : 96 ≤ r := by omega
    have q2 : r ≤ 96 := by omega
    have q3 : (r == 95) = false := by simp; omega
    clear c
    go_enter Tryz.func35, Tryz.ntmps35
    go_wp2
    go_ret
    exact ⟨by rw [H.out]; first | rfl | (simp; omega) | (simp [bne, *]; done), rfl⟩
  by_cases c : 97 ≤ r ∧ r ≤ 122
  · have H : Hid (letterI r = true) := by unfold Hid letterI; simp; omega
    have q1 : 97 ≤ r := by omega
    have q2 : r ≤ 122 := by omega
    clear c
    go_enter Tryz.func35, Tryz.ntmps35
    go_wp2
    go_ret
    exact ⟨by rw [H.out]; first | rfl | (simp; omega) | (simp [bne, *]; done), rfl⟩
  by_cases c : 123 ≤ r
  · have H : Hid (letterI r = false) := by unfold Hid letterI; simp; omega
    have q1 : 123 ≤ r := by omega
    have q3 : (r == 95) = false := by simp; omega
    clear c
    go_enter Tryz.func35, Tryz.ntmps35
    go_wp2
    go_ret
    exact ⟨by rw [H.out]; first | rfl | (simp; omega) | (simp [bne, *]; done), rfl⟩
  omega

set_option maxRecDepth 100000 in
theorem digit_any (r : Int) (w : World) : Calls Tryz.prog 37 #[.int .i32 r] w (BoolSame (digitI r) w) := by
  by_cases c : r ≤ 47
  · have H : Hid (digitI r = false) := by unfold Hid digitI; simp; omega
    have q2 : r ≤ 47 := by omega
    clear c
    go_enter Tryz.func37, Tryz.ntmps37
    go_wp2
    go_ret
    exact ⟨by rw [H.out]; first | rfl | (simp; omega) | (simp [bne, *]; done), rfl⟩
  by_cases c : 48 ≤ r ∧ r ≤ 57
  · have H : Hid (digitI r = true) := by unfold Hid digitI; simp; omega
    have q1 : 48 ≤ r := by omega
    have q2 : r ≤ 57 := by omega
    clear c
    go_enter Tryz.func37, Tryz.ntmps37
    go_wp2
    go_ret
    exact ⟨by rw [H.out]; first | rfl | (simp; omega) | (simp [bne, *]; done), rfl⟩
  by_cases c : 58 ≤ r
  · have H : Hid (digitI r = false) := by unfold Hid digitI; simp; omega
    have q1 : 58 ≤ r := by omega
    clear c
    go_enter Tryz.func37, Tryz.ntmps37
    go_wp2
    go_ret
    exact ⟨by rw [H.out]; first | rfl | (simp; omega) | (simp [bne, *]; done), rfl⟩
  omega

set_option maxRecDepth 100000 in
theorem hex_any (r : Int) (w : World) : Calls Tryz.prog 50 #[.int .i32 r] w (BoolSame (hexI r) w) := by
  by_cases c : r ≤ 47
  · have H : Hid (hexI r = false) := by unfold Hid hexI digitI; simp; omega
    have q2 : r ≤ 47 := by omega
    have HD : Hid (digitI r = false) := by unfold Hid digitI; simp; omega
    clear c
    go_enter Tryz.func50, Tryz.ntmps50
    go_wp2_with (go_at_call 37; (with_reducible refine (digit_any _ _).mono ?_); rintro e w' ⟨rfl, rfl⟩; rw [HD.out])
    go_ret
    exact ⟨by rw [H.out]; first | rfl | (simp; omega) | (simp [bne, *]; done), rfl⟩
  by_cases c : 48 ≤ r ∧ r ≤ 57
  · have H : Hid (hexI r = true) := by unfold Hid hexI digitI; simp; omega
    have q1 : 48 ≤ r := by omega
    have q2 : r ≤ 57 := by omega
    have HD : Hid (digitI r = true) := by unfold Hid digitI; simp; omega
    clear c
    go_enter Tryz.func50, Tryz.ntmps50
    go_wp2_with (go_at_call 37; (with_reducible refine (digit_any _ _).mono ?_); rintro e w' ⟨rfl, rfl⟩; rw [HD.out])
    go_ret
    exact ⟨by rw [H.out]; first | rfl | (simp; omega) | (simp [bne, *]; done), rfl⟩
  by_cases c : 58 ≤ r ∧ r ≤ 64
  · have H : Hid (hexI r = false) := by unfold Hid hexI digitI; simp; omega
    have q1 : 58 ≤ r := by omega
    have q2 : r ≤ 64 := by omega
    have HD : Hid (digitI r = false) := by unfold Hid digitI; simp; omega
    clear c
    go_enter Tryz.func50, Tryz.ntmps50
    go_wp2_with (go_at_call 37; (with_reducible refine (digit_any _ _).mono ?_); rintro e w' ⟨rfl, rfl⟩; rw [HD.out])
    go_ret
    exact ⟨by rw [H.out]; first | rfl | (simp; omega) | (simp [bne, *]; done), rfl⟩
  by_cases c : 65 ≤ r ∧ r ≤ 70
  · have H : Hid (hexI r = true) := by unfold Hid hexI digitI; simp; omega
    have q1 : 65 ≤ r := by omega
    have q2 : r ≤ 70 := by omega
    have HD : Hid (digitI r = false) := by unfold Hid digitI; simp; omega
    clear c
    go_enter Tryz.func50, Tryz.ntmps50
    go_wp2_with (go_at_call 37; (with_reducible refine (digit_any _ _).mono ?_); rintro e w' ⟨rfl, rfl⟩; rw [HD.out])
    go_ret
    exact ⟨by rw [H.out]; first | rfl | (simp; omega) | (simp [bne, *]; done), rfl⟩
  by_cases c : 71 ≤ r ∧ r ≤ 96
  · have H : Hid (hexI r = false) := by unfold Hid hexI digitI; simp; omega
    have q1 : 71 ≤ r := by omega
    have q2 : r ≤ 96 := by omega
    have HD : Hid (digitI r = false) := by unfold Hid digitI; simp; omega
    clear c
    go_enter Tryz.func50, Tryz.ntmps50
    go_wp2_with (go_at_call 37; (with_reducible refine (digit_any _ _).mono ?_); rintro e w' ⟨rfl, rfl⟩; rw [HD.out])
    go_ret
    exact ⟨by rw [H.out]; first | rfl | (simp; omega) | (simp [bne, *]; done), rfl⟩
  by_cases c : 97 ≤ r ∧ r ≤ 102
  · have H : Hid (hexI r = true) := by unfold Hid hexI digitI; simp; omega
    have q1 : 97 ≤ r := by omega
    have q2 : r ≤ 102 := by omega
    have HD : Hid (digitI r = false) := by unfold Hid digitI; simp; omega
    clear c
    go_enter Tryz.func50, Tryz.ntmps50
    go_wp2_with (go_at_call 37; (with_reducible refine (digit_any _ _).mono ?_); rintro e w' ⟨rfl, rfl⟩; rw [HD.out])
    go_ret
    exact ⟨by rw [H.out]; first | rfl | (simp; omega) | (simp [bne, *]; done), rfl⟩
  by_cases c : 103 ≤ r
  · have H : Hid (hexI r = false) := by unfold Hid hexI digitI; simp; omega
    have q1 : 103 ≤ r := by omega
    have HD : Hid (digitI r = false) := by unfold Hid digitI; simp; omega
    clear c
    go_enter Tryz.func50, Tryz.ntmps50
    go_wp2_with (go_at_call 37; (with_reducible refine (digit_any _ _).mono ?_); rintro e w' ⟨rfl, rfl⟩; rw [HD.out])
    go_ret
    exact ⟨by rw [H.out]; first | rfl | (simp; omega) | (simp [bne, *]; done), rfl⟩
  omega

set_option maxRecDepth 100000 in
theorem name_any (r : Int) (w : World) : Calls Tryz.prog 55 #[.int .i32 r] w (BoolSame (nameI r) w) := by
  cases hl : letterI r <;> cases hd : digitI r
  · have H : Hid (nameI r = false) := by unfold Hid nameI; rw [hl, hd]; rfl
    have HL := Lib.hid hl
    have HD := Lib.hid hd
    clear hl hd
    go_enter Tryz.func55, Tryz.ntmps55
    go_wp2_with (first | (go_at_call 35; (with_reducible refine (letter_any _ _).mono ?_); rintro e w' ⟨rfl, rfl⟩; rw [HL.out]) | (go_at_call 37; (with_reducible refine (digit_any _ _).mono ?_); rintro e w' ⟨rfl, rfl⟩; rw [HD.out]))
    go_ret
    exact ⟨by rw [H.out]; first | rfl | (simp; omega) | (simp [bne, *]; done), rfl⟩
  · have H : Hid (nameI r = true) := by unfold Hid nameI; rw [hl, hd]; rfl
    have HL := Lib.hid hl
    have HD := Lib.hid hd
    clear hl hd
    go_enter Tryz.func55, Tryz.ntmps55
    go_wp2_with (first | (go_at_call 35; (with_reducible refine (letter_any _ _).mono ?_); rintro e w' ⟨rfl, rfl⟩; rw [HL.out]) | (go_at_call 37; (with_reducible refine (digit_any _ _).mono ?_); rintro e w' ⟨rfl, rfl⟩; rw [HD.out]))
    go_ret
    exact ⟨by rw [H.out]; first | rfl | (simp; omega) | (simp [bne, *]; done), rfl⟩
  · have H : Hid (nameI r = true) := by unfold Hid nameI; rw [hl, hd]; rfl
    have HL := Lib.hid hl
    have HD := Lib.hid hd
    clear hl hd
    go_enter Tryz.func55, Tryz.ntmps55
    go_wp2_with (first | (go_at_call 35; (with_reducible refine (letter_any _ _).mono ?_); rintro e w' ⟨rfl, rfl⟩; rw [HL.out]) | (go_at_call 37; (with_reducible refine (digit_any _ _).mono ?_); rintro e w' ⟨rfl, rfl⟩; rw [HD.out]))
    go_ret
    exact ⟨by rw [H.out]; first | rfl | (simp; omega) | (simp [bne, *]; done), rfl⟩
  · have H : Hid (nameI r = true) := by unfold Hid nameI; rw [hl, hd]; rfl
    have HL := Lib.hid hl
    have HD := Lib.hid hd
    clear hl hd
    go_enter Tryz.func55, Tryz.ntmps55
    go_wp2_with (first | (go_at_call 35; (with_reducible refine (letter_any _ _).mono ?_); rintro e w' ⟨rfl, rfl⟩; rw [HL.out]) | (go_at_call 37; (with_reducible refine (digit_any _ _).mono ?_); rintro e w' ⟨rfl, rfl⟩; rw [HD.out]))
    go_ret
    exact ⟨by rw [H.out]; first | rfl | (simp; omega) | (simp [bne, *]; done), rfl⟩

set_option maxHeartbeats 4000000 in
set_option maxRecDepth 100000 in
theorem run_blank (s : ByteArray) (w : World) :
    Calls Tryz.prog 30 #[.string s, .func (.func 31) #[] #[]] w fun e w' => e = .returned (.int .i64 (runN blankB s.data.toList : Nat)) ∧ Below w.heap.size w w' := by
  go_enter Tryz.func30, Tryz.ntmps30
  go_wp2_with fail
  go_loopw [5, 6] (fun _ _ wr => ∃ pos : Nat, wr = w.iter s pos ∧ pos ≤ s.size ∧ Hid (runN blankB s.data.toList = pos + runN blankB (s.data.toList.drop pos))) (fun _ _ wr => s.size - wr.iterPos w.heap.size)
  case atStart => exact ⟨0, rfl, Nat.zero_le _, by unfold Hid; simp⟩
  case round =>
    obtain ⟨pos, rfl, hpos, HN⟩ := hrel
    by_cases hp : pos < s.size
    · have hnx : ∀ ty, (Instr.next (.pointer (some ⟨w.heap.size, 0, none⟩)) true ty).run Tryz.prog (w.iter s pos) = _ := fun ty => run_next_any w s pos ty hp
      have HW := Lib.hid (width_ok s pos hp)
      have HS := Lib.hid (run_step blankB false blank_hi s pos hp)
      have HK := Lib.hid (blank_is (Utf8.decode s pos).1)
      revert hnx HW HS HK
      generalize (Utf8.decode s pos).1 = r
      generalize (Utf8.decode s pos).2 = d
      intro hnx HW HS HK
      cases hk : blankI (r : Int)
      · have HF := Lib.hid hk
        clear hk
        go_wp2_with (go_at_call 31; (with_reducible refine (blank_any _ _).mono ?_); rintro e w' ⟨rfl, rfl⟩; rw [HF.out])
        go_ret
        refine ⟨?_, (Below.refl _ _).alloc (Nat.le_refl _) _⟩
        rw [HN.out, HS.out.2 (HK.out ▸ HF.out)]; rfl
      · have HF := Lib.hid hk
        clear hk
        go_wp2_with (go_at_call 31; (with_reducible refine (blank_any _ _).mono ?_); rintro e w' ⟨rfl, rfl⟩; rw [HF.out])
        go_roundw
        case rel =>
          have h1 := HW.out
          have h2 := HS.out.1 (HK.out ▸ HF.out)
          have h3 := HN.out
          exact ⟨pos + d, rfl, by omega, by unfold Hid; omega⟩
        case measure => have h1 := HW.out; simp; omega
    · obtain rfl : pos = s.size := by omega
      have hnx : ∀ ty, (Instr.next (.pointer (some ⟨w.heap.size, 0, none⟩)) true ty).run Tryz.prog (w.iter s s.size) = _ := fun ty => run_next_end w s s.size ty hp
      have hf : runN blankB s.data.toList = s.size := by rw [HN.out, List.drop_eq_nil_of_le (by rw [Array.length_toList]; exact Nat.le_refl _), runN_nil]; rfl
      have HF := Lib.hid hf
      clear hf HN
      go_wp2
      go_ret
      exact ⟨by rw [HF.out]; rfl, (Below.refl _ _).alloc (Nat.le_refl _) _⟩

set_option maxHeartbeats 4000000 in
set_option maxRecDepth 100000 in
theorem run_line (s : ByteArray) (w : World) :
    Calls Tryz.prog 30 #[.string s, .func (.func 33) #[] #[]] w fun e w' => e = .returned (.int .i64 (runN lineB s.data.toList : Nat)) ∧ Below w.heap.size w w' := by
  go_enter Tryz.func30, Tryz.ntmps30
  go_wp2_with fail
  go_loopw [5, 6] (fun _ _ wr => ∃ pos : Nat, wr = w.iter s pos ∧ pos ≤ s.size ∧ Hid (runN lineB s.data.toList = pos + runN lineB (s.data.toList.drop pos))) (fun _ _ wr => s.size - wr.iterPos w.heap.size)
  case atStart => exact ⟨0, rfl, Nat.zero_le _, by unfold Hid; simp⟩
  case round =>
    obtain ⟨pos, rfl, hpos, HN⟩ := hrel
    by_cases hp : pos < s.size
    · have hnx : ∀ ty, (Instr.next (.pointer (some ⟨w.heap.size, 0, none⟩)) true ty).run Tryz.prog (w.iter s pos) = _ := fun ty => run_next_any w s pos ty hp
      have HW := Lib.hid (width_ok s pos hp)
      have HS := Lib.hid (run_step lineB true line_hi s pos hp)
      have HK := Lib.hid (line_is (Utf8.decode s pos).1)
      revert hnx HW HS HK
      generalize (Utf8.decode s pos).1 = r
      generalize (Utf8.decode s pos).2 = d
      intro hnx HW HS HK
      cases hk : lineI (r : Int)
      · have HF := Lib.hid hk
        clear hk
        go_wp2_with (go_at_call 33; (with_reducible refine (line_any _ _).mono ?_); rintro e w' ⟨rfl, rfl⟩; rw [HF.out])
        go_ret
        refine ⟨?_, (Below.refl _ _).alloc (Nat.le_refl _) _⟩
        rw [HN.out, HS.out.2 (HK.out ▸ HF.out)]; rfl
      · have HF := Lib.hid hk
        clear hk
        go_wp2_with (go_at_call 33; (with_reducible refine (line_any _ _).mono ?_); rintro e w' ⟨rfl, rfl⟩; rw [HF.out])
        go_roundw
        case rel =>
          have h1 := HW.out
          have h2 := HS.out.1 (HK.out ▸ HF.out)
          have h3 := HN.out
          exact ⟨pos + d, rfl, by omega, by unfold Hid; omega⟩
        case measure => have h1 := HW.out; simp; omega
    · obtain rfl : pos = s.size := by omega
      have hnx : ∀ ty, (Instr.next (.pointer (some ⟨w.heap.size, 0, none⟩)) true ty).run Tryz.prog (w.iter s s.size) = _ := fun ty => run_next_end w s s.size ty hp
      have hf : runN lineB s.data.toList = s.size := by rw [HN.out, List.drop_eq_nil_of_le (by rw [Array.length_toList]; exact Nat.le_refl _), runN_nil]; rfl
      have HF := Lib.hid hf
      clear hf HN
      go_wp2
      go_ret
      exact ⟨by rw [HF.out]; rfl, (Below.refl _ _).alloc (Nat.le_refl _) _⟩

set_option maxHeartbeats 4000000 in
set_option maxRecDepth 100000 in
theorem run_letter (s : ByteArray) (w : World) :
    Calls Tryz.prog 30 #[.string s, .func (.func 35) #[] #[]] w fun e w' => e = .returned (.int .i64 (runN letterB s.data.toList : Nat)) ∧ Below w.heap.size w w' := by
  go_enter Tryz.func30, Tryz.ntmps30
  go_wp2_with fail
  go_loopw [5, 6] (fun _ _ wr => ∃ pos : Nat, wr = w.iter s pos ∧ pos ≤ s.size ∧ Hid (runN letterB s.data.toList = pos + runN letterB (s.data.toList.drop pos))) (fun _ _ wr => s.size - wr.iterPos w.heap.size)
  case atStart => exact ⟨0, rfl, Nat.zero_le _, by unfold Hid; simp⟩
  case round =>
    obtain ⟨pos, rfl, hpos, HN⟩ := hrel
    by_cases hp : pos < s.size
    · have hnx : ∀ ty, (Instr.next (.pointer (some ⟨w.heap.size, 0, none⟩)) true ty).run Tryz.prog (w.iter s pos) = _ := fun ty => run_next_any w s pos ty hp
      have HW := Lib.hid (width_ok s pos hp)
      have HS := Lib.hid (run_step letterB false letter_hi s pos hp)
      have HK := Lib.hid (letter_is (Utf8.decode s pos).1)
      revert hnx HW HS HK
      generalize (Utf8.decode s pos).1 = r
      generalize (Utf8.decode s pos).2 = d
      intro hnx HW HS HK
      cases hk : letterI (r : Int)
      · have HF := Lib.hid hk
        clear hk
        go_wp2_with (go_at_call 35; (with_reducible refine (letter_any _ _).mono ?_); rintro e w' ⟨rfl, rfl⟩; rw [HF.out])
        go_ret
        refine ⟨?_, (Below.refl _ _).alloc (Nat.le_refl _) _⟩
        rw [HN.out, HS.out.2 (HK.out ▸ HF.out)]; rfl
      · have HF := Lib.hid hk
        clear hk
        go_wp2_with (go_at_call 35; (with_reducible refine (letter_any _ _).mono ?_); rintro e w' ⟨rfl, rfl⟩; rw [HF.out])
        go_roundw
        case rel =>
          have h1 := HW.out
          have h2 := HS.out.1 (HK.out ▸ HF.out)
          have h3 := HN.out
          exact ⟨pos + d, rfl, by omega, by unfold Hid; omega⟩
        case measure => have h1 := HW.out; simp; omega
    · obtain rfl : pos = s.size := by omega
      have hnx : ∀ ty, (Instr.next (.pointer (some ⟨w.heap.size, 0, none⟩)) true ty).run Tryz.prog (w.iter s s.size) = _ := fun ty => run_next_end w s s.size ty hp
      have hf : runN letterB s.data.toList = s.size := by rw [HN.out, List.drop_eq_nil_of_le (by rw [Array.length_toList]; exact Nat.le_refl _), runN_nil]; rfl
      have HF := Lib.hid hf
      clear hf HN
      go_wp2
      go_ret
      exact ⟨by rw [HF.out]; rfl, (Below.refl _ _).alloc (Nat.le_refl _) _⟩

set_option maxHeartbeats 4000000 in
set_option maxRecDepth 100000 in
theorem run_digit (s : ByteArray) (w : World) :
    Calls Tryz.prog 30 #[.string s, .func (.func 37) #[] #[]] w fun e w' => e = .returned (.int .i64 (runN digitB s.data.toList : Nat)) ∧ Below w.heap.size w w' := by
  go_enter Tryz.func30, Tryz.ntmps30
  go_wp2_with fail
  go_loopw [5, 6] (fun _ _ wr => ∃ pos : Nat, wr = w.iter s pos ∧ pos ≤ s.size ∧ Hid (runN digitB s.data.toList = pos + runN digitB (s.data.toList.drop pos))) (fun _ _ wr => s.size - wr.iterPos w.heap.size)
  case atStart => exact ⟨0, rfl, Nat.zero_le _, by unfold Hid; simp⟩
  case round =>
    obtain ⟨pos, rfl, hpos, HN⟩ := hrel
    by_cases hp : pos < s.size
    · have hnx : ∀ ty, (Instr.next (.pointer (some ⟨w.heap.size, 0, none⟩)) true ty).run Tryz.prog (w.iter s pos) = _ := fun ty => run_next_any w s pos ty hp
      have HW := Lib.hid (width_ok s pos hp)
      have HS := Lib.hid (run_step digitB false digit_hi s pos hp)
      have HK := Lib.hid (digit_is (Utf8.decode s pos).1)
      revert hnx HW HS HK
      generalize (Utf8.decode s pos).1 = r
      generalize (Utf8.decode s pos).2 = d
      intro hnx HW HS HK
      cases hk : digitI (r : Int)
      · have HF := Lib.hid hk
        clear hk
        go_wp2_with (go_at_call 37; (with_reducible refine (digit_any _ _).mono ?_); rintro e w' ⟨rfl, rfl⟩; rw [HF.out])
        go_ret
        refine ⟨?_, (Below.refl _ _).alloc (Nat.le_refl _) _⟩
        rw [HN.out, HS.out.2 (HK.out ▸ HF.out)]; rfl
      · have HF := Lib.hid hk
        clear hk
        go_wp2_with (go_at_call 37; (with_reducible refine (digit_any _ _).mono ?_); rintro e w' ⟨rfl, rfl⟩; rw [HF.out])
        go_roundw
        case rel =>
          have h1 := HW.out
          have h2 := HS.out.1 (HK.out ▸ HF.out)
          have h3 := HN.out
          exact ⟨pos + d, rfl, by omega, by unfold Hid; omega⟩
        case measure => have h1 := HW.out; simp; omega
    · obtain rfl : pos = s.size := by omega
      have hnx : ∀ ty, (Instr.next (.pointer (some ⟨w.heap.size, 0, none⟩)) true ty).run Tryz.prog (w.iter s s.size) = _ := fun ty => run_next_end w s s.size ty hp
      have hf : runN digitB s.data.toList = s.size := by rw [HN.out, List.drop_eq_nil_of_le (by rw [Array.length_toList]; exact Nat.le_refl _), runN_nil]; rfl
      have HF := Lib.hid hf
      clear hf HN
      go_wp2
      go_ret
      exact ⟨by rw [HF.out]; rfl, (Below.refl _ _).alloc (Nat.le_refl _) _⟩

set_option maxHeartbeats 4000000 in
set_option maxRecDepth 100000 in
theorem run_hex (s : ByteArray) (w : World) :
    Calls Tryz.prog 30 #[.string s, .func (.func 50) #[] #[]] w fun e w' => e = .returned (.int .i64 (runN hexB s.data.toList : Nat)) ∧ Below w.heap.size w w' := by
  go_enter Tryz.func30, Tryz.ntmps30
  go_wp2_with fail
  go_loopw [5, 6] (fun _ _ wr => ∃ pos : Nat, wr = w.iter s pos ∧ pos ≤ s.size ∧ Hid (runN hexB s.data.toList = pos + runN hexB (s.data.toList.drop pos))) (fun _ _ wr => s.size - wr.iterPos w.heap.size)
  case atStart => exact ⟨0, rfl, Nat.zero_le _, by unfold Hid; simp⟩
  case round =>
    obtain ⟨pos, rfl, hpos, HN⟩ := hrel
    by_cases hp : pos < s.size
    · have hnx : ∀ ty, (Instr.next (.pointer (some ⟨w.heap.size, 0, none⟩)) true ty).run Tryz.prog (w.iter s pos) = _ := fun ty => run_next_any w s pos ty hp
      have HW := Lib.hid (width_ok s pos hp)
      have HS := Lib.hid (run_step hexB false hex_hi s pos hp)
      have HK := Lib.hid (hex_is (Utf8.decode s pos).1)
      revert hnx HW HS HK
      generalize (Utf8.decode s pos).1 = r
      generalize (Utf8.decode s pos).2 = d
      intro hnx HW HS HK
      cases hk : hexI (r : Int)
      · have HF := Lib.hid hk
        clear hk
        go_wp2_with (go_at_call 50; (with_reducible refine (hex_any _ _).mono ?_); rintro e w' ⟨rfl, rfl⟩; rw [HF.out])
        go_ret
        refine ⟨?_, (Below.refl _ _).alloc (Nat.le_refl _) _⟩
        rw [HN.out, HS.out.2 (HK.out ▸ HF.out)]; rfl
      · have HF := Lib.hid hk
        clear hk
        go_wp2_with (go_at_call 50; (with_reducible refine (hex_any _ _).mono ?_); rintro e w' ⟨rfl, rfl⟩; rw [HF.out])
        go_roundw
        case rel =>
          have h1 := HW.out
          have h2 := HS.out.1 (HK.out ▸ HF.out)
          have h3 := HN.out
          exact ⟨pos + d, rfl, by omega, by unfold Hid; omega⟩
        case measure => have h1 := HW.out; simp; omega
    · obtain rfl : pos = s.size := by omega
      have hnx : ∀ ty, (Instr.next (.pointer (some ⟨w.heap.size, 0, none⟩)) true ty).run Tryz.prog (w.iter s s.size) = _ := fun ty => run_next_end w s s.size ty hp
      have hf : runN hexB s.data.toList = s.size := by rw [HN.out, List.drop_eq_nil_of_le (by rw [Array.length_toList]; exact Nat.le_refl _), runN_nil]; rfl
      have HF := Lib.hid hf
      clear hf HN
      go_wp2
      go_ret
      exact ⟨by rw [HF.out]; rfl, (Below.refl _ _).alloc (Nat.le_refl _) _⟩

set_option maxHeartbeats 4000000 in
set_option maxRecDepth 100000 in
theorem run_name (s : ByteArray) (w : World) :
    Calls Tryz.prog 30 #[.string s, .func (.func 55) #[] #[]] w fun e w' => e = .returned (.int .i64 (runN nameB s.data.toList : Nat)) ∧ Below w.heap.size w w' := by
  go_enter Tryz.func30, Tryz.ntmps30
  go_wp2_with fail
  go_loopw [5, 6] (fun _ _ wr => ∃ pos : Nat, wr = w.iter s pos ∧ pos ≤ s.size ∧ Hid (runN nameB s.data.toList = pos + runN nameB (s.data.toList.drop pos))) (fun _ _ wr => s.size - wr.iterPos w.heap.size)
  case atStart => exact ⟨0, rfl, Nat.zero_le _, by unfold Hid; simp⟩
  case round =>
    obtain ⟨pos, rfl, hpos, HN⟩ := hrel
    by_cases hp : pos < s.size
    · have hnx : ∀ ty, (Instr.next (.pointer (some ⟨w.heap.size, 0, none⟩)) true ty).run Tryz.prog (w.iter s pos) = _ := fun ty => run_next_any w s pos ty hp
      have HW := Lib.hid (width_ok s pos hp)
      have HS := Lib.hid (run_step nameB false name_hi s pos hp)
      have HK := Lib.hid (name_is (Utf8.decode s pos).1)
      revert hnx HW HS HK
      generalize (Utf8.decode s pos).1 = r
      generalize (Utf8.decode s pos).2 = d
      intro hnx HW HS HK
      cases hk : nameI (r : Int)
      · have HF := Lib.hid hk
        clear hk
        go_wp2_with (go_at_call 55; (with_reducible refine (name_any _ _).mono ?_); rintro e w' ⟨rfl, rfl⟩; rw [HF.out])
        go_ret
        refine ⟨?_, (Below.refl _ _).alloc (Nat.le_refl _) _⟩
        rw [HN.out, HS.out.2 (HK.out ▸ HF.out)]; rfl
      · have HF := Lib.hid hk
        clear hk
        go_wp2_with (go_at_call 55; (with_reducible refine (name_any _ _).mono ?_); rintro e w' ⟨rfl, rfl⟩; rw [HF.out])
        go_roundw
        case rel =>
          have h1 := HW.out
          have h2 := HS.out.1 (HK.out ▸ HF.out)
          have h3 := HN.out
          exact ⟨pos + d, rfl, by omega, by unfold Hid; omega⟩
        case measure => have h1 := HW.out; simp; omega
    · obtain rfl : pos = s.size := by omega
      have hnx : ∀ ty, (Instr.next (.pointer (some ⟨w.heap.size, 0, none⟩)) true ty).run Tryz.prog (w.iter s s.size) = _ := fun ty => run_next_end w s s.size ty hp
      have hf : runN nameB s.data.toList = s.size := by rw [HN.out, List.drop_eq_nil_of_le (by rw [Array.length_toList]; exact Nat.le_refl _), runN_nil]; rfl
      have HF := Lib.hid hf
      clear hf HN
      go_wp2
      go_ret
      exact ⟨by rw [HF.out]; rfl, (Below.refl _ _).alloc (Nat.le_refl _) _⟩

end Go.Proofs.YtlmjijiepnefdaaGreatDoor
