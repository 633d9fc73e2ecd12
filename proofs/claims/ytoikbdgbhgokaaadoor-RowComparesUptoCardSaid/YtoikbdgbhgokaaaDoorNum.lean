/-
  The contract of row's appendNumber: eight bytes, the highest first, behind what the slice holds; it makes memory of its own alone.
-/
import Derived.Test.YtoikbdgbhgokaaaDoorBytes
namespace Go.Proofs.YtoikbdgbhgokaaaDoor
open Go.RowKit

theorem take_getD (l : List UInt8) (j : Nat) (h : j < l.length) : l.take (j + 1) = l.take j ++ [l.getD j 0] := by
  rw [List.take_succ_eq_append_getElem h]
  simp [List.getD, List.getElem?_eq_getElem h]

theorem be8_length (n : Nat) : (be8 n).length = 8 := rfl
/-- The byte at a place of the eight. -/
def nth8 (n j : Nat) : UInt8 := (be8 n).getD j 0
theorem take_nth (l : List UInt8) (n j : Nat) (h : j < 8) : l ++ (be8 n).take (j + 1) = (l ++ (be8 n).take j) ++ [nth8 n j] := by
  rw [take_getD (be8 n) j h, List.append_assoc]; rfl
theorem take_len (n j : Nat) : ((be8 n).take j).length ≤ 8 := by rw [List.length_take, be8_length]; omega
theorem be8_0 (n : Nat) : ((nth8 n 0).toNat : Int) = (n : Int) / 72057594037927936 % 256 := by
  show ((UInt8.ofNat (n / 72057594037927936)).toNat : Int) = _
  rw [UInt8.toNat_ofNat']
  omega
theorem be8_1 (n : Nat) : ((nth8 n 1).toNat : Int) = (n : Int) / 281474976710656 % 256 := by
  show ((UInt8.ofNat (n / 281474976710656)).toNat : Int) = _
  rw [UInt8.toNat_ofNat']
  omega
theorem be8_2 (n : Nat) : ((nth8 n 2).toNat : Int) = (n : Int) / 1099511627776 % 256 := by
  show ((UInt8.ofNat (n / 1099511627776)).toNat : Int) = _
  rw [UInt8.toNat_ofNat']
  omega
theorem be8_3 (n : Nat) : ((nth8 n 3).toNat : Int) = (n : Int) / 4294967296 % 256 := by
  show ((UInt8.ofNat (n / 4294967296)).toNat : Int) = _
  rw [UInt8.toNat_ofNat']
  omega
theorem be8_4 (n : Nat) : ((nth8 n 4).toNat : Int) = (n : Int) / 16777216 % 256 := by
  show ((UInt8.ofNat (n / 16777216)).toNat : Int) = _
  rw [UInt8.toNat_ofNat']
  omega
theorem be8_5 (n : Nat) : ((nth8 n 5).toNat : Int) = (n : Int) / 65536 % 256 := by
  show ((UInt8.ofNat (n / 65536)).toNat : Int) = _
  rw [UInt8.toNat_ofNat']
  omega
theorem be8_6 (n : Nat) : ((nth8 n 6).toNat : Int) = (n : Int) / 256 % 256 := by
  show ((UInt8.ofNat (n / 256)).toNat : Int) = _
  rw [UInt8.toNat_ofNat']
  omega
theorem be8_7 (n : Nat) : ((nth8 n 7).toNat : Int) = (n : Int) / 1 % 256 := by
  show ((UInt8.ofNat (n)).toNat : Int) = _
  rw [UInt8.toNat_ofNat']
  omega

set_option maxRecDepth 100000 in
set_option maxHeartbeats 4000000 in
theorem appNum (base : Nat) (v : Value) (l : List UInt8) (n : Nat) (w : World) (hown : OwnB w base v l) (hbase : base ≤ w.heap.size) (hlen : l.length ≤ 70368744177664) :
    Calls Tryd.prog 46 #[v, .int .u64 n] w (AppPost base w (l ++ be8 n)) := by
  go_enter Tryd.func46, Tryd.ntmps46
  go_wp2
  go_loopw [0, 5] (fun u i wr => ∃ (j : Nat) (q : Int), j ≤ 8 ∧ i = .int .i64 q ∧ q = 56 - 8 * (j : Int) ∧ OwnB wr base u (l ++ (be8 n).take j) ∧ Below base w wr) (fun _ i _ => (intOf i + 8).toNat)
  case atStart => exact ⟨0, _, by omega, rfl, by omega, by simpa using hown, Below.refl _ _⟩
  case round =>
    obtain ⟨j, q, hj, rfl, hq, ho, hb⟩ := hrel
    have hz := hb.size
    rcases (show j = 0 ∨ j = 1 ∨ j = 2 ∨ j = 3 ∨ j = 4 ∨ j = 5 ∨ j = 6 ∨ j = 7 ∨ j = 8 by omega) with rfl | rfl | rfl | rfl | rfl | rfl | rfl | rfl | rfl
    · obtain rfl : q = 56 := by omega
      clear hq
      go_wp2_with (at_builtin; refine wpList_append_bytes _ rfl _ _ rfl base _ _ rfl (ho.alloc _) ⟨wr.heap.size, 0, none⟩ [nth8 n 0] 1 1 rfl rfl (news_one wr _ _ (by first | exact be8_0 n | (have hb' := be8_0 n; omega)) _ rfl) (by have ht := take_len n 0; rw [List.length_append]; omega) (by simp; omega) ?_)
      intro v1 w1 ho1 hg
      have hb1 := hb.trans (Below.trans ((Below.refl base wr).alloc (by omega) _) (own_below (ho.alloc _) (by simp; omega) hg))
      have ho2 : OwnB w1 base v1 (l ++ (be8 n).take 1) := by rw [take_nth l n 0 (by omega)]; first | exact ho1 | (rw [List.append_assoc]; exact ho1) | simpa using ho1
      clear hg ho ho1
      go_wp2
      go_roundw
      case rel => exact ⟨1, _, by omega, rfl, by omega, ho2, hb1⟩
      case measure => simp [intOf]
    · obtain rfl : q = 48 := by omega
      clear hq
      go_wp2_with (at_builtin; refine wpList_append_bytes _ rfl _ _ rfl base _ _ rfl (ho.alloc _) ⟨wr.heap.size, 0, none⟩ [nth8 n 1] 1 1 rfl rfl (news_one wr _ _ (by first | exact be8_1 n | (have hb' := be8_1 n; omega)) _ rfl) (by have ht := take_len n 1; rw [List.length_append]; omega) (by simp; omega) ?_)
      intro v1 w1 ho1 hg
      have hb1 := hb.trans (Below.trans ((Below.refl base wr).alloc (by omega) _) (own_below (ho.alloc _) (by simp; omega) hg))
      have ho2 : OwnB w1 base v1 (l ++ (be8 n).take 2) := by rw [take_nth l n 1 (by omega)]; first | exact ho1 | (rw [List.append_assoc]; exact ho1) | simpa using ho1
      clear hg ho ho1
      go_wp2
      go_roundw
      case rel => exact ⟨2, _, by omega, rfl, by omega, ho2, hb1⟩
      case measure => simp [intOf]
    · obtain rfl : q = 40 := by omega
      clear hq
      go_wp2_with (at_builtin; refine wpList_append_bytes _ rfl _ _ rfl base _ _ rfl (ho.alloc _) ⟨wr.heap.size, 0, none⟩ [nth8 n 2] 1 1 rfl rfl (news_one wr _ _ (by first | exact be8_2 n | (have hb' := be8_2 n; omega)) _ rfl) (by have ht := take_len n 2; rw [List.length_append]; omega) (by simp; omega) ?_)
      intro v1 w1 ho1 hg
      have hb1 := hb.trans (Below.trans ((Below.refl base wr).alloc (by omega) _) (own_below (ho.alloc _) (by simp; omega) hg))
      have ho2 : OwnB w1 base v1 (l ++ (be8 n).take 3) := by rw [take_nth l n 2 (by omega)]; first | exact ho1 | (rw [List.append_assoc]; exact ho1) | simpa using ho1
      clear hg ho ho1
      go_wp2
      go_roundw
      case rel => exact ⟨3, _, by omega, rfl, by omega, ho2, hb1⟩
      case measure => simp [intOf]
    · obtain rfl : q = 32 := by omega
      clear hq
      go_wp2_with (at_builtin; refine wpList_append_bytes _ rfl _ _ rfl base _ _ rfl (ho.alloc _) ⟨wr.heap.size, 0, none⟩ [nth8 n 3] 1 1 rfl rfl (news_one wr _ _ (by first | exact be8_3 n | (have hb' := be8_3 n; omega)) _ rfl) (by have ht := take_len n 3; rw [List.length_append]; omega) (by simp; omega) ?_)
      intro v1 w1 ho1 hg
      have hb1 := hb.trans (Below.trans ((Below.refl base wr).alloc (by omega) _) (own_below (ho.alloc _) (by simp; omega) hg))
      have ho2 : OwnB w1 base v1 (l ++ (be8 n).take 4) := by rw [take_nth l n 3 (by omega)]; first | exact ho1 | (rw [List.append_assoc]; exact ho1) | simpa using ho1
      clear hg ho ho1
      go_wp2
      go_roundw
      case rel => exact ⟨4, _, by omega, rfl, by omega, ho2, hb1⟩
      case measure => simp [intOf]
    · obtain rfl : q = 24 := by omega
      clear hq
      go_wp2_with (at_builtin; refine wpList_append_bytes _ rfl _ _ rfl base _ _ rfl (ho.alloc _) ⟨wr.heap.size, 0, none⟩ [nth8 n 4] 1 1 rfl rfl (news_one wr _ _ (by first | exact be8_4 n | (have hb' := be8_4 n; omega)) _ rfl) (by have ht := take_len n 4; rw [List.length_append]; omega) (by simp; omega) ?_)
      intro v1 w1 ho1 hg
      have hb1 := hb.trans (Below.trans ((Below.refl base wr).alloc (by omega) _) (own_below (ho.alloc _) (by simp; omega) hg))
      have ho2 : OwnB w1 base v1 (l ++ (be8 n).take 5) := by rw [take_nth l n 4 (by omega)]; first | exact ho1 | (rw [List.append_assoc]; exact ho1) | simpa using ho1
      clear hg ho ho1
      go_wp2
      go_roundw
      case rel => exact ⟨5, _, by omega, rfl, by omega, ho2, hb1⟩
      case measure => simp [intOf]
    · obtain rfl : q = 16 := by omega
      clear hq
      go_wp2_with (at_builtin; refine wpList_append_bytes _ rfl _ _ rfl base _ _ rfl (ho.alloc _) ⟨wr.heap.size, 0, none⟩ [nth8 n 5] 1 1 rfl rfl (news_one wr _ _ (by first | exact be8_5 n | (have hb' := be8_5 n; omega)) _ rfl) (by have ht := take_len n 5; rw [List.length_append]; omega) (by simp; omega) ?_)
      intro v1 w1 ho1 hg
      have hb1 := hb.trans (Below.trans ((Below.refl base wr).alloc (by omega) _) (own_below (ho.alloc _) (by simp; omega) hg))
      have ho2 : OwnB w1 base v1 (l ++ (be8 n).take 6) := by rw [take_nth l n 5 (by omega)]; first | exact ho1 | (rw [List.append_assoc]; exact ho1) | simpa using ho1
      clear hg ho ho1
      go_wp2
      go_roundw
      case rel => exact ⟨6, _, by omega, rfl, by omega, ho2, hb1⟩
      case measure => simp [intOf]
    · obtain rfl : q = 8 := by omega
      clear hq
      go_wp2_with (at_builtin; refine wpList_append_bytes _ rfl _ _ rfl base _ _ rfl (ho.alloc _) ⟨wr.heap.size, 0, none⟩ [nth8 n 6] 1 1 rfl rfl (news_one wr _ _ (by first | exact be8_6 n | (have hb' := be8_6 n; omega)) _ rfl) (by have ht := take_len n 6; rw [List.length_append]; omega) (by simp; omega) ?_)
      intro v1 w1 ho1 hg
      have hb1 := hb.trans (Below.trans ((Below.refl base wr).alloc (by omega) _) (own_below (ho.alloc _) (by simp; omega) hg))
      have ho2 : OwnB w1 base v1 (l ++ (be8 n).take 7) := by rw [take_nth l n 6 (by omega)]; first | exact ho1 | (rw [List.append_assoc]; exact ho1) | simpa using ho1
      clear hg ho ho1
      go_wp2
      go_roundw
      case rel => exact ⟨7, _, by omega, rfl, by omega, ho2, hb1⟩
      case measure => simp [intOf]
    · obtain rfl : q = 0 := by omega
      clear hq
      go_wp2_with (at_builtin; refine wpList_append_bytes _ rfl _ _ rfl base _ _ rfl (ho.alloc _) ⟨wr.heap.size, 0, none⟩ [nth8 n 7] 1 1 rfl rfl (news_one wr _ _ (by first | exact be8_7 n | (have hb' := be8_7 n; omega)) _ rfl) (by have ht := take_len n 7; rw [List.length_append]; omega) (by simp; omega) ?_)
      intro v1 w1 ho1 hg
      have hb1 := hb.trans (Below.trans ((Below.refl base wr).alloc (by omega) _) (own_below (ho.alloc _) (by simp; omega) hg))
      have ho2 : OwnB w1 base v1 (l ++ (be8 n).take 8) := by rw [take_nth l n 7 (by omega)]; first | exact ho1 | (rw [List.append_assoc]; exact ho1) | simpa using ho1
      clear hg ho ho1
      go_wp2
      go_roundw
      case rel => exact ⟨8, _, by omega, rfl, by omega, ho2, hb1⟩
      case measure => simp [intOf]
    · obtain rfl : q = -8 := by omega
      clear hq
      have ht : l ++ List.take 8 (be8 n) = l ++ be8 n := by simp [be8]
      rw [ht] at ho
      clear ht
      go_wp2
      go_ret
      exact ⟨_, rfl, ho, hb⟩

end Go.Proofs.YtoikbdgbhgokaaaDoor
