/-
  What the reference's printing wants: strconv.Itoa's contract, digits of sixteen, texts.
-/
import Derived.Test.YtlmjijiepnefdaaGreatDoorLexText
import Derived.Test.YtlmjijiepnefdaaGreatDoorPrintP
import Derived.Test.YtlmjijiepnefdaaGreatDoorRowPure
import Derived.Test.YtlmjijiepnefdaaGreatDoorPosts
import Derived.Test.YtlmjijiepnefdaaGreatDoorShelf6
import Derived.Lib.AppendIntMem
import Derived.Lib.ItoaMem
import Derived.BigGuard
import Derived.Laws.RangeString
import Derived.Laws.RangeAny
namespace Go.Proofs.YtlmjijiepnefdaaGreatDoor
open Go.RowKit Go.Sort Go.Lib

/-- The table of powers of ten stands, here and in every later world. -/
def Pow10 (w : World) : Prop := Lib.TabBelow Tryz.prog w.heap.size w "internal/strconv.uint64pow10" .u64 Lib.pow10Tab
theorem Pow10.below {w w' : World} (h : Pow10 w) (hb : Below w.heap.size w w') : Pow10 w' := fun w2 h2 => h w2 (hb.trans (h2.mono hb.size))
theorem itoa_in (n : Int) (h : -9223372036854775808 ≤ n ∧ n ≤ 9223372036854775807) (w : World) (ht : Pow10 w) :
    Calls Tryz.prog 46 #[.int .i64 n] w (StrPost (Lib.itoa n) w) :=
  (Tryz.internal_strconv_Itoa n h.1 h.2 w ht.here).mono fun _ _ ⟨he, k, os, hw⟩ => ⟨he, hw ▸ below_grow _ w (Nat.le_refl _) k os⟩
theorem itoa_any (n : Int) (h : -9223372036854775808 ≤ n ∧ n ≤ 9223372036854775807) (w : World) (ht : Pow10 w) :
    Calls Tryz.prog 25 #[.int .i64 n] w (StrPost (Lib.itoa n) w) := by
  have HC := Lib.hid (itoa_in n h w ht)
  clear ht
  generalize Lib.itoa n = l at *
  go_enter Tryz.func25, Tryz.ntmps25
  go_wp2_with (go_at_call 46; (with_reducible refine HC.out.mono ?_); rintro e w' ⟨rfl, hb⟩)
  go_ret
  exact ⟨rfl, hb⟩
theorem str_ret (x : ByteArray) (l : List UInt8) (h : x.data.toList = l) : Ending.returned (.string x) = .returned (.string ⟨l.toArray⟩) := by
  subst h; rfl
theorem nd_le (u : Nat) (h : u < 18446744073709551616) : (Lib.decDigits u).length ≤ 20 := by
  rw [Lib.decDigits_length]
  by_cases h0 : u < 10
  · rw [Lib.nDigits_small h0]; omega
  · have := Lib.numDigits_eq u (by omega) h
    split at this <;> omega
/-- The table of digits of sixteen. -/
def dtab : ByteArray := ⟨#[48, 49, 50, 51, 52, 53, 54, 55, 56, 57, 97, 98, 99, 100, 101, 102]⟩
theorem take_snoc (s : ByteArray) (k : Nat) (h : k < s.size) : s.data.toList.take (k + 1) = s.data.toList.take k ++ [s[k]] := by
  rw [List.take_succ_eq_append_getElem (by simpa using h)]; rfl

end Go.Proofs.YtlmjijiepnefdaaGreatDoor
