/-
  The contract of datum's printDec and printBool.
-/
import Derived.Test.YtoikbdgbhgokaaaDoorPrintU
import Derived.Test.YtoikbdgbhgokaaaDoorPrintP
import Derived.Test.YtoikbdgbhgokaaaDoorAmt
namespace Go.Proofs.YtoikbdgbhgokaaaDoor
open Go.RowKit

theorem formatUint_int (x : Int) (w : World) (h0 : 0 ≤ x) (h1 : x < 18446744073709551616) (ht : Pow10 w) :
    Calls Tryd.prog 58 #[.int .u64 x, .int .i64 10] w (StrPost (Lib.decDigits x.toNat) w) := by
  have := formatUint_any x.toNat (by omega) w ht
  rw [Int.toNat_of_nonneg h0] at this
  exact this

theorem str_ret (x : ByteArray) (l : List UInt8) (h : x.data.toList = l) : Ending.returned (.string x) = .returned (.string ⟨l.toArray⟩) := by
  subst h; rfl

theorem nd_le (u : Nat) (h : u < 18446744073709551616) : (Lib.decDigits u).length ≤ 20 := by
  rw [Lib.decDigits_length]
  by_cases h0 : u < 10
  · rw [Lib.nDigits_small h0]; omega
  · have := Lib.numDigits_eq u (by omega) h
    split at this <;> omega

set_option maxHeartbeats 4000000 in
set_option maxRecDepth 100000 in
theorem printDec_any (n : Int) (w : World) (h : -9223372036854775808 ≤ n ∧ n ≤ 9223372036854775807) (ht : Pow10 w) :
    Calls Tryd.prog 40 #[.int .i64 n] w (StrPost (decL n) w) := by
  obtain ⟨h0, h1⟩ := h
  have HT := Lib.hid ht
  clear ht
  obtain ⟨a, ha⟩ : ∃ a : Nat, a = n.natAbs := ⟨_, rfl⟩
  have hb : (a : Int) ≤ 9223372036854775808 := by omega
  have HA : Hid (∀ w : World, Calls Tryd.prog 59 #[.int .i64 n] w fun e w' => e = .returned (.int .u64 (a : Int)) ∧ w = w') := fun w => ha ▸ amount_any n w h0 h1
  have HL : Hid (decL n = (if n < 0 then [45] else []) ++ (Lib.decDigits (a / 10000) ++ 46 :: four (a % 10000))) := by rw [ha]; rfl
  have hq : ((a : Int) / 10000).toNat = a / 10000 := by omega
  have hr : ((a : Int) % 10000 + 10000).toNat = a % 10000 + 10000 := by omega
  have hd := dec_10000 (a % 10000) (Nat.mod_lt _ (by decide))
  have HQ := Lib.hid hq
  have HR := Lib.hid hr
  have HD := Lib.hid hd
  clear hq hr hd ha
  by_cases hn : n < 0
  all_goals
    go_enter Tryd.func40, Tryd.ntmps40
    go_wp2_with (go_at_call 59; (with_reducible refine (HA.out _).mono ?_); rintro e w' ⟨rfl, rfl⟩)
    refine (formatUint_int _ _ (by omega) (by omega) HT.out).mono ?_
    rintro e w1 ⟨rfl, hb1⟩
    rw [HQ.out]
    have HT1 := Lib.hid (HT.out.below hb1)
    go_wp2_with (go_at_call 59; (with_reducible refine (HA.out _).mono ?_); rintro e w' ⟨rfl, rfl⟩)
    refine (formatUint_int _ _ (by omega) (by omega) HT1.out).mono ?_
    rintro e w2 ⟨rfl, hb2⟩
    rw [HR.out, HD.out]
    have hw := hb1.trans (hb2.mono hb1.size)
    have hl1 := nd_le (a / 10000) (by omega)
    have hl2 : (four (a % 10000)).length ≤ 4 := Nat.le_refl _
    clear HD HQ HR HT HT1 hb1 hb2 HA
    generalize Lib.decDigits (a / 10000) = d at *
    generalize four (a % 10000) = g at *
    go_wp2
    go_ret
    refine ⟨str_ret _ _ ?_, hw⟩
    rw [HL.out]
    first | rw [if_pos hn] | rw [if_neg (by omega)]
    simp [ByteArray.data_append, ByteArray.data_extract]

end Go.Proofs.YtoikbdgbhgokaaaDoor
