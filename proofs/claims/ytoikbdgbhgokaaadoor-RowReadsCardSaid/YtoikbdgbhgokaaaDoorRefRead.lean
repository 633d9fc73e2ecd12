/-
  The contract of the reference's read: the value at a place, and the place behind it; it makes memory of its own alone.
-/
import Derived.Test.YtoikbdgbhgokaaaDoorRefEnd
import Derived.Test.YtoikbdgbhgokaaaDoorRefRight
namespace Go.Proofs.YtoikbdgbhgokaaaDoor
open Go.RowKit

theorem back_add (N : Nat) (h : N < 18446744073709551616) : wrap64 (IntKind.u64.wrap ((N : Int) + 9223372036854775808)) = back N := by
  rw [wrap64_is, IntKind.wrap_u64, IntKind.wrap_i64]
  unfold back
  omega

/-- read answers c, of a string of n bytes. -/
def ReadPost (n : Nat) (c : Option (Dat × List UInt8)) (w : World) (e : Ending) (w' : World) : Prop :=
  Below w.heap.size w w' ∧ match c with
  | some p => p.2.length ≤ n ∧ e = .returned (.tuple #[.agg #[.int .i64 p.1.k, .int .i64 p.1.i, .string p.1.s], .int .i64 ((n : Int) - p.2.length)])
  | none => ∃ k i t, e = .returned (.tuple #[.agg #[.int .i64 k, .int .i64 i, .string t], .int .i64 (-1)])

theorem drop_place (s : ByteArray) (k : Nat) : (s.data.toList.drop k).length = s.size - k := by rw [List.length_drop, toL_len]

set_option maxRecDepth 100000 in
set_option maxHeartbeats 4000000 in
theorem refRead_low (s : ByteArray) (k : Nat) (w : World) (h : k < s.size) (h0 : s[k] = 0) :
    Calls Tryd.prog 33 #[.string s, .int .i64 k] w (ReadPost s.size none w) := by
  have hb0 : (s[k].toNat : Int) = 0 := by rw [h0]; rfl
  go_enter Tryd.func33, Tryd.ntmps33
  go_wp2
  refine bodyPost_ret (v := .tuple #[.agg #[.int .i64 (-1), .int .i64 0, .string ⟨#[]⟩], .int .i64 (-1)]) ?_ rfl ⟨?_, _, _, _, rfl⟩
  · simp [results, Tryd.results33, go_sem]
  · exact ((Below.refl _ _).alloc (Nat.le_refl _) _).alloc (by simp) _

set_option maxRecDepth 100000 in
set_option maxHeartbeats 4000000 in
theorem refRead_high (s : ByteArray) (k : Nat) (w : World) (h : k < s.size) (h0 : 7 ≤ s[k].toNat) :
    Calls Tryd.prog 33 #[.string s, .int .i64 k] w (ReadPost s.size none w) := by
  obtain ⟨x, hx, hx1, hx2⟩ : ∃ x : Int, (s[k].toNat : Int) = x ∧ 7 ≤ x ∧ x < 256 := ⟨_, rfl, by omega, by have := s[k].toNat_lt; omega⟩
  have hx6 : 5 < x - 1 := by omega
  have hx0 : ¬ x - 1 < 0 := by omega
  clear h0
  go_enter Tryd.func33, Tryd.ntmps33
  go_wp2
  refine bodyPost_ret (v := .tuple #[.agg #[.int .i64 (x - 1), .int .i64 0, .string ⟨#[]⟩], .int .i64 (-1)]) ?_ rfl ⟨?_, _, _, _, rfl⟩
  · simp [results, Tryd.results33, go_sem]
  · exact ((Below.refl _ _).alloc (Nat.le_refl _) _).alloc (by simp) _

set_option maxRecDepth 100000 in
set_option maxHeartbeats 4000000 in
theorem refRead_null (s : ByteArray) (k : Nat) (w : World) (h : k < s.size) (h0 : s[k] = 1) (hs : s.size ≤ 140737488351232) :
    Calls Tryd.prog 33 #[.string s, .int .i64 k] w (ReadPost s.size (some (⟨0, 0, ⟨#[]⟩⟩, s.data.toList.drop (k + 1))) w) := by
  have hb0 : (s[k].toNat : Int) = 1 := by rw [h0]; rfl
  go_enter Tryd.func33, Tryd.ntmps33
  go_wp2
  refine bodyPost_ret (v := .tuple #[.agg #[.int .i64 0, .int .i64 0, .string ⟨#[]⟩], .int .i64 ((s.size : Int) - (s.data.toList.drop (k + 1)).length)]) ?_ rfl ⟨?_, ?_, rfl⟩
  · rw [drop_place s _, show ((s.size : Int) - ((s.size - (k + 1) : Nat) : Int)) = (k : Int) + 1 by omega]
    simp [results, Tryd.results33, go_sem] <;> omega
  · exact ((Below.refl _ _).alloc (Nat.le_refl _) _).alloc (by simp) _
  · simp only [drop_place s _]; omega

set_option maxRecDepth 100000 in
set_option maxHeartbeats 4000000 in
theorem refRead_bool (s : ByteArray) (k : Nat) (w : World) (h : k + 1 < s.size) (h0 : s[k] = 2) (h1 : s[k + 1].toNat ≤ 1) (hs : s.size ≤ 140737488351232) :
    Calls Tryd.prog 33 #[.string s, .int .i64 k] w (ReadPost s.size (some (⟨1, s[k + 1].toNat, ⟨#[]⟩⟩, s.data.toList.drop (k + 2))) w) := by
  have hb0 : (s[k].toNat : Int) = 2 := by rw [h0]; rfl
  have hlt : (k : Int) + 1 < s.size := by omega
  have hlk : k < s.size := by omega
  go_enter Tryd.func33, Tryd.ntmps33
  go_wp2
  refine bodyPost_ret (v := .tuple #[.agg #[.int .i64 1, .int .i64 s[k + 1].toNat, .string ⟨#[]⟩], .int .i64 ((s.size : Int) - (s.data.toList.drop (k + 2)).length)]) ?_ rfl ⟨?_, ?_, rfl⟩
  · rw [drop_place s _, show ((s.size : Int) - ((s.size - (k + 2) : Nat) : Int)) = (k : Int) + 2 by omega]
    simp [results, Tryd.results33, go_sem] <;> omega
  · exact ((Below.refl _ _).alloc (Nat.le_refl _) _).alloc (by simp) _
  · simp only [drop_place s _]; omega

set_option maxRecDepth 100000 in
set_option maxHeartbeats 4000000 in
theorem refRead_bool_short (s : ByteArray) (k : Nat) (w : World) (h : k + 1 = s.size) (h0 : s[k] = 2) (hs : s.size ≤ 140737488351232) :
    Calls Tryd.prog 33 #[.string s, .int .i64 k] w (ReadPost s.size none w) := by
  have hb0 : (s[k].toNat : Int) = 2 := by rw [h0]; rfl
  have hlt : (s.size : Int) ≤ (k : Int) + 1 := by omega
  have hlk : k < s.size := by omega
  go_enter Tryd.func33, Tryd.ntmps33
  go_wp2
  refine bodyPost_ret (v := .tuple #[.agg #[.int .i64 1, .int .i64 0, .string ⟨#[]⟩], .int .i64 (-1)]) ?_ rfl ⟨?_, _, _, _, rfl⟩
  · simp [results, Tryd.results33, go_sem]
  · exact ((Below.refl _ _).alloc (Nat.le_refl _) _).alloc (by simp) _

set_option maxRecDepth 100000 in
set_option maxHeartbeats 4000000 in
theorem refRead_bool_no (s : ByteArray) (k : Nat) (w : World) (h : k + 1 < s.size) (h0 : s[k] = 2) (h1 : ¬ s[k + 1].toNat ≤ 1) (hs : s.size ≤ 140737488351232) :
    Calls Tryd.prog 33 #[.string s, .int .i64 k] w (ReadPost s.size none w) := by
  have hb0 : (s[k].toNat : Int) = 2 := by rw [h0]; rfl
  have hlt : (k : Int) + 1 < s.size := by omega
  have hlk : k < s.size := by omega
  have h2 : (1 : Int) < s[k + 1].toNat := by omega
  go_enter Tryd.func33, Tryd.ntmps33
  go_wp2
  refine bodyPost_ret (v := .tuple #[.agg #[.int .i64 1, .int .i64 0, .string ⟨#[]⟩], .int .i64 (-1)]) ?_ rfl ⟨?_, _, _, _, rfl⟩
  · simp [results, Tryd.results33, go_sem]
  · exact ((Below.refl _ _).alloc (Nat.le_refl _) _).alloc (by simp) _

set_option maxRecDepth 100000 in
set_option maxHeartbeats 4000000 in
theorem refRead_int_short (s : ByteArray) (k : Nat) (w : World) (h : k < s.size) (h0 : s[k] = 3) (h8 : s.size - (k + 1) < 8) (hs : s.size ≤ 140737488351232) :
    Calls Tryd.prog 33 #[.string s, .int .i64 k] w (ReadPost s.size none w) := by
  have hb0 : (s[k].toNat : Int) = 3 := by rw [h0]; rfl
  have hlt : (s.size : Int) - ((k : Int) + 1) < 8 := by omega
  go_enter Tryd.func33, Tryd.ntmps33
  go_wp2
  refine bodyPost_ret (v := .tuple #[.agg #[.int .i64 2, .int .i64 0, .string ⟨#[]⟩], .int .i64 (-1)]) ?_ rfl ⟨?_, _, _, _, rfl⟩
  · simp [results, Tryd.results33, go_sem]
  · exact ((Below.refl _ _).alloc (Nat.le_refl _) _).alloc (by simp) _

set_option maxRecDepth 100000 in
set_option maxHeartbeats 4000000 in
theorem refRead_int (s : ByteArray) (k : Nat) (w : World) (h : k < s.size) (h0 : s[k] = 3) (h8 : ¬ s.size - (k + 1) < 8) (hs : s.size ≤ 140737488351232) :
    Calls Tryd.prog 33 #[.string s, .int .i64 k] w (ReadPost s.size (some (⟨2, back (num8 ((s.data.toList.drop (k + 1)).take 8)), ⟨#[]⟩⟩, s.data.toList.drop (k + 9))) w) := by
  have hb0 : (s[k].toNat : Int) = 3 := by rw [h0]; rfl
  have hlt : ¬ (s.size : Int) - ((k : Int) + 1) < 8 := by omega
  go_enter Tryd.func33, Tryd.ntmps33
  go_wp2
  go_loop [7, 8] (fun n i => ∃ j : Nat, j ≤ 8 ∧ i = .int .i64 j ∧ n = .int .u64 (accI ((s.data.toList.drop (k + 1)).take j))) (fun _ i => 8 - (intOf i).toNat)
  case atStart => exact ⟨0, by omega, rfl, rfl⟩
  case round =>
    obtain ⟨j, hj, rfl, rfl⟩ := hrel
    by_cases hlt : j < 8
    · have hs1 : (k + 1) + j < s.size := by omega
      have HT : Hid (accI ((s.data.toList.drop (k + 1)).take (j + 1)) = bits .or .u64 (IntKind.u64.wrap (accI ((s.data.toList.drop (k + 1)).take j) * 256)) (IntKind.u64.wrap ((s[(k + 1) + j].toNat : Nat) : Int))) := by
        unfold Hid
        rw [← accI_snoc, List.take_succ_eq_append_getElem (by rw [List.length_drop, toL_len]; omega), List.getElem_drop]
        rfl
      go_wp2
      go_round
      case rel =>
        refine ⟨j + 1, by omega, by go_num, ?_⟩
        rw [HT.out]
      case measure => simp [intOf]; omega
    · obtain rfl : j = 8 := by omega
      have hl : ((s.data.toList.drop (k + 1)).take 8).length = 8 := by rw [List.length_take, List.length_drop, toL_len]; omega
      have HT : accI ((s.data.toList.drop (k + 1)).take 8) = (num8 ((s.data.toList.drop (k + 1)).take 8) : Int) := accI_num _ (by omega)
      have HN := num8_lt _ hl
      have HB := Lib.hid (back_add _ HN)
      rw [HT]
      clear hl HN HT
      obtain ⟨N, hN⟩ : ∃ N, num8 ((s.data.toList.drop (k + 1)).take 8) = N := ⟨_, rfl⟩
      have HBN : Hid (wrap64 (IntKind.u64.wrap ((N : Int) + 9223372036854775808)) = back (num8 ((s.data.toList.drop (k + 1)).take 8))) := hN ▸ HB.out
      rw [hN]
      clear hN HB
      go_wp2

      refine bodyPost_ret (v := .tuple #[.agg #[.int .i64 2, .int .i64 (wrap64 (IntKind.u64.wrap ((N : Int) + 9223372036854775808))), .string ⟨#[]⟩], .int .i64 ((s.size : Int) - (s.data.toList.drop (k + 9)).length)]) ?_ rfl ⟨?_, ?_, by rw [HBN.out]⟩
      · rw [drop_place s _, show ((s.size : Int) - ((s.size - (k + 9) : Nat) : Int)) = (k : Int) + 9 by omega]
        simp [results, Tryd.results33, go_sem] <;> omega
      · exact ((Below.refl _ _).alloc (Nat.le_refl _) _).alloc (by simp) _
      · simp only [drop_place s _]; omega
    


set_option maxRecDepth 100000 in
set_option maxHeartbeats 4000000 in
theorem refRead_dec_short (s : ByteArray) (k : Nat) (w : World) (h : k < s.size) (h0 : s[k] = 4) (h8 : s.size - (k + 1) < 8) (hs : s.size ≤ 140737488351232) :
    Calls Tryd.prog 33 #[.string s, .int .i64 k] w (ReadPost s.size none w) := by
  have hb0 : (s[k].toNat : Int) = 4 := by rw [h0]; rfl
  have hlt : (s.size : Int) - ((k : Int) + 1) < 8 := by omega
  go_enter Tryd.func33, Tryd.ntmps33
  go_wp2
  refine bodyPost_ret (v := .tuple #[.agg #[.int .i64 3, .int .i64 0, .string ⟨#[]⟩], .int .i64 (-1)]) ?_ rfl ⟨?_, _, _, _, rfl⟩
  · simp [results, Tryd.results33, go_sem]
  · exact ((Below.refl _ _).alloc (Nat.le_refl _) _).alloc (by simp) _

set_option maxRecDepth 100000 in
set_option maxHeartbeats 4000000 in
theorem refRead_dec (s : ByteArray) (k : Nat) (w : World) (h : k < s.size) (h0 : s[k] = 4) (h8 : ¬ s.size - (k + 1) < 8) (hs : s.size ≤ 140737488351232) :
    Calls Tryd.prog 33 #[.string s, .int .i64 k] w (ReadPost s.size (some (⟨3, back (num8 ((s.data.toList.drop (k + 1)).take 8)), ⟨#[]⟩⟩, s.data.toList.drop (k + 9))) w) := by
  have hb0 : (s[k].toNat : Int) = 4 := by rw [h0]; rfl
  have hlt : ¬ (s.size : Int) - ((k : Int) + 1) < 8 := by omega
  go_enter Tryd.func33, Tryd.ntmps33
  go_wp2
  go_loop [7, 8] (fun n i => ∃ j : Nat, j ≤ 8 ∧ i = .int .i64 j ∧ n = .int .u64 (accI ((s.data.toList.drop (k + 1)).take j))) (fun _ i => 8 - (intOf i).toNat)
  case atStart => exact ⟨0, by omega, rfl, rfl⟩
  case round =>
    obtain ⟨j, hj, rfl, rfl⟩ := hrel
    by_cases hlt : j < 8
    · have hs1 : (k + 1) + j < s.size := by omega
      have HT : Hid (accI ((s.data.toList.drop (k + 1)).take (j + 1)) = bits .or .u64 (IntKind.u64.wrap (accI ((s.data.toList.drop (k + 1)).take j) * 256)) (IntKind.u64.wrap ((s[(k + 1) + j].toNat : Nat) : Int))) := by
        unfold Hid
        rw [← accI_snoc, List.take_succ_eq_append_getElem (by rw [List.length_drop, toL_len]; omega), List.getElem_drop]
        rfl
      go_wp2
      go_round
      case rel =>
        refine ⟨j + 1, by omega, by go_num, ?_⟩
        rw [HT.out]
      case measure => simp [intOf]; omega
    · obtain rfl : j = 8 := by omega
      have hl : ((s.data.toList.drop (k + 1)).take 8).length = 8 := by rw [List.length_take, List.length_drop, toL_len]; omega
      have HT : accI ((s.data.toList.drop (k + 1)).take 8) = (num8 ((s.data.toList.drop (k + 1)).take 8) : Int) := accI_num _ (by omega)
      have HN := num8_lt _ hl
      have HB := Lib.hid (back_add _ HN)
      rw [HT]
      clear hl HN HT
      obtain ⟨N, hN⟩ : ∃ N, num8 ((s.data.toList.drop (k + 1)).take 8) = N := ⟨_, rfl⟩
      have HBN : Hid (wrap64 (IntKind.u64.wrap ((N : Int) + 9223372036854775808)) = back (num8 ((s.data.toList.drop (k + 1)).take 8))) := hN ▸ HB.out
      rw [hN]
      clear hN HB
      go_wp2

      refine bodyPost_ret (v := .tuple #[.agg #[.int .i64 3, .int .i64 (wrap64 (IntKind.u64.wrap ((N : Int) + 9223372036854775808))), .string ⟨#[]⟩], .int .i64 ((s.size : Int) - (s.data.toList.drop (k + 9)).length)]) ?_ rfl ⟨?_, ?_, by rw [HBN.out]⟩
      · rw [drop_place s _, show ((s.size : Int) - ((s.size - (k + 9) : Nat) : Int)) = (k : Int) + 9 by omega]
        simp [results, Tryd.results33, go_sem] <;> omega
      · exact ((Below.refl _ _).alloc (Nat.le_refl _) _).alloc (by simp) _
      · simp only [drop_place s _]; omega
    


end Go.Proofs.YtoikbdgbhgokaaaDoor
