/-
  The contract of row's cutNumber: a number of one byte or eight, the highest first, and what stands behind; it leaves the world as it was.
-/
import Derived.Test.YtoikbdgbhgokaaaDoorDecPure
import Derived.Test.YtoikbdgbhgokaaaDoorBytes
import Derived.Test.YtoikbdgbhgokaaaDoorShelf
import Derived.Laws.BitsAllLaws
import Derived.Lib.IndexBytes
import Derived.Deep.QuietTactic
import Derived.BigQuiet
namespace Go.Proofs.YtoikbdgbhgokaaaDoor
open Go.RowKit

/-- The number that bytes spell, as the program reckons. -/
def accI (l : List UInt8) : Int := l.foldl (fun n b => bits .or .u64 (IntKind.u64.wrap (n * 256)) (IntKind.u64.wrap (b.toNat : Int))) 0

theorem accI_snoc (l : List UInt8) (b : UInt8) : accI (l ++ [b]) = bits .or .u64 (IntKind.u64.wrap (accI l * 256)) (IntKind.u64.wrap (b.toNat : Int)) := by
  unfold accI; rw [List.foldl_append]; rfl
theorem num8_snoc (l : List UInt8) (b : UInt8) : num8 (l ++ [b]) = num8 l * 256 + b.toNat := by
  unfold num8; rw [List.foldl_append]; rfl

theorem or_low (m b : Nat) (hm : m < 72057594037927936) (hb : b < 256) : bits .or .u64 (IntKind.u64.wrap ((m : Int) * 256)) (IntKind.u64.wrap (b : Int)) = ((m * 256 + b : Nat) : Int) := by
  have hb' : IntKind.u64.wrap (b : Int) = (b : Int) := by rw [IntKind.wrap_u64]; omega
  have hw : IntKind.u64.wrap ((m : Int) * 256) = ((m * 256 : Nat) : Int) := by rw [IntKind.wrap_u64]; omega
  rw [hw, hb', u64_or_nat _ _ (by omega) (by omega)]
  have h := Nat.two_pow_add_eq_or_of_lt (i := 8) (b := b) (by omega) m
  have e : m * 256 = 2 ^ 8 * m := by omega
  rw [e, ← h]

theorem num8_bound : ∀ l : List UInt8, num8 l < 256 ^ l.length
  | l => by
    rcases List.eq_nil_or_concat l with rfl | ⟨t, b, rfl⟩
    · simp [num8]
    · have ih := num8_bound t
      have hb := b.toNat_lt
      rw [List.concat_eq_append, num8_snoc, List.length_append, List.length_singleton, Nat.pow_succ]
      omega
termination_by l => l.length

theorem accI_num : ∀ l : List UInt8, l.length ≤ 8 → accI l = (num8 l : Int)
  | l, h => by
    rcases List.eq_nil_or_concat l with rfl | ⟨t, b, rfl⟩
    · rfl
    · have hl : t.length ≤ 7 := by simp at h; omega
      have ih := accI_num t (by omega)
      have hb := num8_bound t
      have hp : 256 ^ t.length ≤ 256 ^ 7 := Nat.pow_le_pow_right (by decide) hl
      have hb2 := b.toNat_lt
      rw [List.concat_eq_append, accI_snoc, num8_snoc, ih, or_low _ _ (by omega) (by omega)]
termination_by l => l.length

set_option maxRecDepth 100000 in
set_option maxHeartbeats 4000000 in
theorem cutNum_short (s : ByteArray) (z : Nat) (w : World) (h : s.size < z) :
    Calls Tryd.prog 50 #[.string s, .int .i64 z] w fun e w' => e = .returned (.tuple #[.int .u64 0, .string ⟨#[]⟩, .bool false]) ∧ w = w' := by
  have hz : (s.size : Int) < z := by omega
  go_enter Tryd.func50, Tryd.ntmps50
  go_wp2
  go_ret3
  exact ⟨rfl, rfl⟩

set_option maxRecDepth 100000 in
set_option maxHeartbeats 4000000 in
theorem cutNum_any (s : ByteArray) (z : Nat) (w : World) (h : z ≤ s.size) (hz8 : z ≤ 8) :
    Calls Tryd.prog 50 #[.string s, .int .i64 z] w fun e w' => e = .returned (.tuple #[.int .u64 (num8 (s.data.toList.take z)), .string (s.extract z s.size), .bool true]) ∧ Below w.heap.size w w' := by
  have hz : ¬ (s.size : Int) < z := by omega
  go_enter Tryd.func50, Tryd.ntmps50
  go_wp2
  go_loop [4, 13] (fun n i => ∃ k : Nat, k ≤ z ∧ i = .int .i64 k ∧ n = .int .u64 (accI (s.data.toList.take k))) (fun _ i => z - (intOf i).toNat)
  case atStart => exact ⟨0, by omega, rfl, rfl⟩
  case round =>
    obtain ⟨k, hk, rfl, rfl⟩ := hrel
    by_cases hlt : k < z
    · have hs : k < s.size := by omega
      have HT : Hid (accI (s.data.toList.take (k + 1)) = bits .or .u64 (IntKind.u64.wrap (accI (s.data.toList.take k) * 256)) (IntKind.u64.wrap ((s[k].toNat : Nat) : Int))) := by
        unfold Hid
        rw [← accI_snoc, List.take_succ_eq_append_getElem (by simpa using hs)]
        rfl
      go_wp2
      go_round
      case rel =>
        refine ⟨k + 1, by omega, by go_num, ?_⟩
        rw [HT.out]
      case measure => simp [intOf]; omega
    · obtain rfl : k = z := by omega
      have HT : Hid (accI (s.data.toList.take k) = (num8 (s.data.toList.take k) : Int)) := accI_num _ (by rw [List.length_take]; omega)
      have hz1 : (k : Int) ≤ s.size := by omega
      go_wp2
      go_quiet (fail)
      go_wp2
      go_ret3
      exact ⟨by rw [← HT.out]; rfl, below_drewNv (Below.refl _ _) _⟩

end Go.Proofs.YtoikbdgbhgokaaaDoor
