/-
  The contract of the reference's Print of a value.
-/
import Derived.Test.YtlmjijiepnefdaaGreatDoorRBase
import Derived.Test.YtlmjijiepnefdaaGreatDoorRefRight
import Derived.Deep.QuietTactic
import Derived.BigQuiet
import Derived.BigFrame
namespace Go.Proofs.YtlmjijiepnefdaaGreatDoor
open Go.RowKit

theorem str_val (x : ByteArray) (l : List UInt8) (h : x.data.toList = l) : Value.string x = .string ⟨l.toArray⟩ := by
  subst h; rfl

theorem hex_ex (n : Nat) (h : n < 16) : (dtab.extract n (n + 1)).data.toList = [hexD n] := by
  have : ∀ x : Fin 16, (dtab.extract x.val (x.val + 1)).data.toList = [hexD x.val] := by decide +kernel
  exact this ⟨n, h⟩

theorem rhex_any (n : Int) (w : World) (h0 : 0 ≤ n) (h : n < 16) :
    Calls Tryz.prog 26 #[.int .i64 n] w fun e w' => e = .returned (.string ⟨[hexD n.toNat].toArray⟩) ∧ w' = w := by
  obtain ⟨k, rfl⟩ : ∃ k : Nat, n = k := ⟨n.toNat, by omega⟩
  have hx := hex_ex k (by omega)
  rw [Int.toNat_natCast]
  have HX := Lib.hid hx
  clear hx
  go_enter Tryz.func26, Tryz.ntmps26
  go_wp2
  go_ret
  exact ⟨str_ret _ _ HX.out, rfl⟩

set_option maxHeartbeats 4000000 in
set_option maxRecDepth 100000 in
theorem rprint_no (k i : Int) (s : ByteArray) (w : World) (HR : Hid (∀ w' : World, Calls Tryz.prog 15 #[.agg #[.int .i64 k, .int .i64 i, .string s]] w' (RightPost false w'))) :
    Calls Tryz.prog 16 #[.agg #[.int .i64 k, .int .i64 i, .string s]] w (StrPost ([]) w) := by
  have b0 : Below w.heap.size w (w.alloc (.cells #[.int .i64 k, .int .i64 i, .string s] 31)) := (Below.refl _ w).alloc (Nat.le_refl _) _
  go_enter Tryz.func16, Tryz.ntmps16
  go_wp2_with (go_at_call 15; (with_reducible refine (HR.out _).mono ?_); rintro e w1 ⟨rfl, hb⟩; have x0 := Blk.below (b := w.heap.size) (cs := #[.int .i64 k, .int .i64 i, .string s]) (t := 31) (Blk.at rfl) hb; have y0 := x0.cell 0; have y1 := x0.cell 1; have y2 := x0.cell 2; simp only [List.getElem?_toArray, List.getElem?_cons_zero, List.getElem?_cons_succ] at y0 y1 y2; have bw := b0.trans (hb.mono b0.size); clear hb b0)
  go_ret
  exact ⟨rfl, bw⟩

set_option maxHeartbeats 4000000 in
set_option maxRecDepth 100000 in
theorem rprint_null (i : Int) (s : ByteArray) (w : World) (HR : Hid (∀ w' : World, Calls Tryz.prog 15 #[.agg #[.int .i64 0, .int .i64 i, .string s]] w' (RightPost true w'))) :
    Calls Tryz.prog 16 #[.agg #[.int .i64 0, .int .i64 i, .string s]] w (StrPost ([78, 85, 76, 76]) w) := by
  have b0 : Below w.heap.size w (w.alloc (.cells #[.int .i64 0, .int .i64 i, .string s] 31)) := (Below.refl _ w).alloc (Nat.le_refl _) _
  go_enter Tryz.func16, Tryz.ntmps16
  go_wp2_with (go_at_call 15; (with_reducible refine (HR.out _).mono ?_); rintro e w1 ⟨rfl, hb⟩; have x0 := Blk.below (b := w.heap.size) (cs := #[.int .i64 0, .int .i64 i, .string s]) (t := 31) (Blk.at rfl) hb; have y0 := x0.cell 0; have y1 := x0.cell 1; have y2 := x0.cell 2; simp only [List.getElem?_toArray, List.getElem?_cons_zero, List.getElem?_cons_succ] at y0 y1 y2; have bw := b0.trans (hb.mono b0.size); clear hb b0)
  clear x0
  go_ret
  exact ⟨rfl, bw⟩

set_option maxHeartbeats 4000000 in
set_option maxRecDepth 100000 in
theorem rprint_true (s : ByteArray) (w : World) (HR : Hid (∀ w' : World, Calls Tryz.prog 15 #[.agg #[.int .i64 1, .int .i64 1, .string s]] w' (RightPost true w'))) :
    Calls Tryz.prog 16 #[.agg #[.int .i64 1, .int .i64 1, .string s]] w (StrPost ([84, 82, 85, 69]) w) := by
  have b0 : Below w.heap.size w (w.alloc (.cells #[.int .i64 1, .int .i64 1, .string s] 31)) := (Below.refl _ w).alloc (Nat.le_refl _) _
  go_enter Tryz.func16, Tryz.ntmps16
  go_wp2_with (go_at_call 15; (with_reducible refine (HR.out _).mono ?_); rintro e w1 ⟨rfl, hb⟩; have x0 := Blk.below (b := w.heap.size) (cs := #[.int .i64 1, .int .i64 1, .string s]) (t := 31) (Blk.at rfl) hb; have y0 := x0.cell 0; have y1 := x0.cell 1; have y2 := x0.cell 2; simp only [List.getElem?_toArray, List.getElem?_cons_zero, List.getElem?_cons_succ] at y0 y1 y2; have bw := b0.trans (hb.mono b0.size); clear hb b0)
  clear x0
  go_ret
  exact ⟨rfl, bw⟩

set_option maxHeartbeats 4000000 in
set_option maxRecDepth 100000 in
theorem rprint_false (s : ByteArray) (w : World) (HR : Hid (∀ w' : World, Calls Tryz.prog 15 #[.agg #[.int .i64 1, .int .i64 0, .string s]] w' (RightPost true w'))) :
    Calls Tryz.prog 16 #[.agg #[.int .i64 1, .int .i64 0, .string s]] w (StrPost ([70, 65, 76, 83, 69]) w) := by
  have b0 : Below w.heap.size w (w.alloc (.cells #[.int .i64 1, .int .i64 0, .string s] 31)) := (Below.refl _ w).alloc (Nat.le_refl _) _
  go_enter Tryz.func16, Tryz.ntmps16
  go_wp2_with (go_at_call 15; (with_reducible refine (HR.out _).mono ?_); rintro e w1 ⟨rfl, hb⟩; have x0 := Blk.below (b := w.heap.size) (cs := #[.int .i64 1, .int .i64 0, .string s]) (t := 31) (Blk.at rfl) hb; have y0 := x0.cell 0; have y1 := x0.cell 1; have y2 := x0.cell 2; simp only [List.getElem?_toArray, List.getElem?_cons_zero, List.getElem?_cons_succ] at y0 y1 y2; have bw := b0.trans (hb.mono b0.size); clear hb b0)
  clear x0
  go_ret
  exact ⟨rfl, bw⟩

set_option maxHeartbeats 4000000 in
set_option maxRecDepth 100000 in
theorem rprint_int (i : Int) (s : ByteArray) (w : World) (hi : -9223372036854775808 ≤ i ∧ i ≤ 9223372036854775807) (hT : Hid (Pow10 w)) (HR : Hid (∀ w' : World, Calls Tryz.prog 15 #[.agg #[.int .i64 2, .int .i64 i, .string s]] w' (RightPost true w'))) :
    Calls Tryz.prog 16 #[.agg #[.int .i64 2, .int .i64 i, .string s]] w (StrPost (Lib.itoa i) w) := by
  have b0 : Below w.heap.size w (w.alloc (.cells #[.int .i64 2, .int .i64 i, .string s] 31)) := (Below.refl _ w).alloc (Nat.le_refl _) _
  go_enter Tryz.func16, Tryz.ntmps16
  go_wp2_with (go_at_call 15; (with_reducible refine (HR.out _).mono ?_); rintro e w1 ⟨rfl, hb⟩; have x0 := Blk.below (b := w.heap.size) (cs := #[.int .i64 2, .int .i64 i, .string s]) (t := 31) (Blk.at rfl) hb; have y0 := x0.cell 0; have y1 := x0.cell 1; have y2 := x0.cell 2; simp only [List.getElem?_toArray, List.getElem?_cons_zero, List.getElem?_cons_succ] at y0 y1 y2; have bw := b0.trans (hb.mono b0.size); clear hb b0)
  clear x0
  refine (itoa_any i hi _ (hT.out.below bw)).mono ?_
  rintro e w2 ⟨rfl, hb2⟩
  go_wp2
  go_ret
  exact ⟨rfl, bw.trans (hb2.mono bw.size)⟩

end Go.Proofs.YtlmjijiepnefdaaGreatDoor
