/-
  The contract of datum's printBytes.
-/
import Derived.Test.YtoikbdgbhgokaaaDoorShelf5
import Derived.Test.YtoikbdgbhgokaaaDoorPrintD
import Derived.BigCall
import Derived.BigFrame
namespace Go.Proofs.YtoikbdgbhgokaaaDoor
open Go.RowKit

theorem strCells_hd : Lib.strCells ⟨#[120, 39]⟩ = Lib.byteCells [120, 39] := rfl

/-- The program's table of digits. -/
def dtab : ByteArray := ⟨#[48, 49, 50, 51, 52, 53, 54, 55, 56, 57, 97, 98, 99, 100, 101, 102]⟩
abbrev dg16 (x : Nat) (h : x < 16) : Value := .int .u8 ((dtab[x]'h).toNat : Int)
theorem dtab_fin : ∀ x : Fin 16, dtab[x.val]'(by have := x.isLt; exact this) = hexD x.val := by decide +kernel
theorem dg16_eq (x : Nat) (h : x < 16) : dtab[x]'h = hexD x := dtab_fin ⟨x, h⟩
theorem take_snoc (s : ByteArray) (k : Nat) (h : k < s.size) : s.data.toList.take (k + 1) = s.data.toList.take k ++ [s[k]] := by
  rw [List.take_succ_eq_append_getElem (by simpa using h)]; rfl

set_option maxHeartbeats 4000000 in
set_option maxRecDepth 100000 in
theorem printBytes_any (s : ByteArray) (w : World) (hs : s.size ≤ 1000) :
    Calls Tryd.prog 42 #[.string s] w (StrPost (120 :: 39 :: (hexL s.data.toList ++ [39])) w) := by
  have h0 : Lib.IsBuilderF 43 5 w.heap.size w.heap.size [] (w.alloc (.cells #[.pointer none, .slice none 0 0] 43)) := Lib.IsBuilderF.of (Lib.fresh_isBuilder 43 5 w)
  have b0 : Below w.heap.size w (w.alloc (.cells #[.pointer none, .slice none 0 0] 43)) := (Below.refl _ w).alloc (Nat.le_refl _) _
  go_enter Tryd.func42, Tryd.ntmps42
  go_wp2_with (go_at_call 24; refine (Tryd.Builder_WriteString_k w.heap.size w.heap.size [] ⟨#[120, 39]⟩ _ h0 (by decide) b0.size).mono ?_)
  rintro e W1 ⟨rfl, h1, b1, _⟩
  rw [List.nil_append, strCells_hd] at h1
  have bw := b0.trans b1
  clear b0 b1 h0
  go_wp2_with fail
  go_loopw [4, 8] (fun _ i wr => ∃ k : Nat, k ≤ s.size ∧ i = .int .i64 k ∧ Below w.heap.size w wr ∧ Lib.BuilderAtF 43 5 w.heap.size w.heap.size (.pointer (some ⟨w.heap.size, 0, none⟩)) (Lib.byteCells (120 :: 39 :: hexL (s.data.toList.take k))) wr) (fun _ i _ => s.size - (intOf i).toNat)
  case atStart => exact ⟨0, Nat.zero_le _, rfl, bw, by simpa [hexL] using h1⟩
  case round =>
    obtain ⟨k, hk, rfl, bk, hB⟩ := hrel
    by_cases hlt : k < s.size
    · obtain ⟨c, hc⟩ : ∃ c : Nat, s[k].toNat = c := ⟨_, rfl⟩
      have hc1 : c < 256 := hc ▸ UInt8.toNat_lt _
      have hc2 : (c : Int) / 16 < 16 := by omega
      go_wp2_with fail
      have hl : (Lib.byteCells (120 :: 39 :: hexL (s.data.toList.take k))).length + 1 ≤ 140737488355328 := by
        rw [Lib.byteCells_length, List.length_cons, List.length_cons, hexL_len]; have := List.length_take_le k s.data.toList; omega
      refine (Tryd.Builder_WriteByte_k w.heap.size w.heap.size _ _ _ (Or.inr hB) hl bk.size).mono ?_
      rintro e W2 ⟨rfl, h2, b2, _⟩
      have bk2 := bk.trans b2
      clear hB
      go_wp2_with fail
      have hl2 : (Lib.byteCells (120 :: 39 :: hexL (s.data.toList.take k)) ++ [dg16 (c / 16) (by omega)]).length + 1 ≤ 140737488355328 := by
        rw [List.length_append, Lib.byteCells_length, List.length_cons, List.length_cons, hexL_len]; have := List.length_take_le k s.data.toList; simp; omega
      refine (Tryd.Builder_WriteByte_k w.heap.size w.heap.size _ _ _ (Or.inr h2) hl2 bk2.size).mono ?_
      rintro e W3 ⟨rfl, h3, b3, _⟩
      have bk3 := bk2.trans b3
      have h4 : Lib.BuilderAtF 43 5 w.heap.size w.heap.size (.pointer (some ⟨w.heap.size, 0, none⟩)) (Lib.byteCells (120 :: 39 :: hexL (s.data.toList.take (k + 1)))) W3 := by
        rw [take_snoc s k hlt, hexL_append]
        show Lib.BuilderAtF 43 5 w.heap.size w.heap.size (.pointer (some ⟨w.heap.size, 0, none⟩)) (Lib.byteCells (120 :: 39 :: (hexL (s.data.toList.take k) ++ [hexD (s[k].toNat / 16), hexD (s[k].toNat % 16)]))) W3
        rw [hc, ← dg16_eq (c / 16) (by omega), ← dg16_eq (c % 16) (by omega)]
        have e : ∀ a b : UInt8, Lib.byteCells (120 :: 39 :: (hexL (s.data.toList.take k) ++ [a, b])) = Lib.byteCells (120 :: 39 :: hexL (s.data.toList.take k)) ++ [.int .u8 a.toNat] ++ [.int .u8 b.toNat] := by
          intro a b; simp [Lib.byteCells]
        rw [e]; exact h3
      clear h2 h3
      go_wp2_with fail
      go_roundw
      case rel => exact ⟨k + 1, by omega, by go_num, bk3, h4⟩
      case measure => simp [intOf]; omega
    · have : k = s.size := by omega
      subst this
      have hl : (Lib.byteCells (120 :: 39 :: hexL (s.data.toList.take s.size))).length + 1 ≤ 140737488355328 := by
        rw [Lib.byteCells_length, List.length_cons, List.length_cons, hexL_len]; have := List.length_take_le s.size s.data.toList; omega
      have ht : s.data.toList.take s.size = s.data.toList := List.take_of_length_le (Nat.le_of_eq Array.length_toList)
      rw [ht] at hB hl
      have HT := Lib.hid ht
      clear ht
      go_wp2_with fail
      refine (Tryd.Builder_WriteByte_k w.heap.size w.heap.size _ _ _ (Or.inr hB) hl bk.size).mono ?_
      rintro e W2 ⟨rfl, h2, b2, _⟩
      have bk2 := bk.trans b2
      have h3 : Lib.IsBuilderF 43 5 w.heap.size w.heap.size (Lib.byteCells (120 :: 39 :: (hexL s.data.toList ++ [39]))) W2 := by
        refine Or.inr ?_
        have e : Lib.byteCells (120 :: 39 :: (hexL s.data.toList ++ [39])) = Lib.byteCells (120 :: 39 :: hexL s.data.toList) ++ [.int .u8 39] := by
          simp [Lib.byteCells]
        rw [e]; exact h2
      clear h2 hB
      go_wp2_with fail
      refine (Tryd.Builder_String_any_k w.heap.size w.heap.size _ _ h3 bk2.size).mono ?_
      rintro e W3 ⟨rfl, _, b3, _⟩
      have bk3 := bk2.trans b3
      go_wp2
      go_ret
      exact ⟨rfl, bk3⟩

end Go.Proofs.YtoikbdgbhgokaaaDoor
