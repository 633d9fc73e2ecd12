/-
  The contract of the reference's Print of BYTES.
-/
import Derived.Test.YtlmjijiepnefdaaGreatDoorRefPrintT
namespace Go.Proofs.YtlmjijiepnefdaaGreatDoor
open Go.RowKit

theorem below_drewN {B : Nat} {a w : World} (h : Below B a w) (n : Nat) : Below B a (w.drewN n) := ⟨h.os, h.tape, h.output, h.size, h.block⟩

theorem hex_step (s : ByteArray) (k : Nat) (h : k < s.size) : 120 :: 39 :: hexL (s.data.toList.take (k + 1)) = (120 :: 39 :: hexL (s.data.toList.take k)) ++ [hexD (s[k].toNat / 16), hexD (s[k].toNat % 16)] := by
  rw [take_snoc s k h, hexL_append]; simp [hexL]

set_option maxHeartbeats 4000000 in
set_option maxRecDepth 100000 in
theorem rprint_bytes (i : Int) (s : ByteArray) (w : World) (hs : s.size ≤ 1000) (HR : Hid (∀ w' : World, Calls Tryz.prog 15 #[.agg #[.int .i64 5, .int .i64 i, .string s]] w' (RightPost true w'))) :
    Calls Tryz.prog 16 #[.agg #[.int .i64 5, .int .i64 i, .string s]] w (StrPost (120 :: 39 :: (hexL s.data.toList ++ [39])) w) := by
  have b0 : Below w.heap.size w (w.alloc (.cells #[.int .i64 5, .int .i64 i, .string s] 31)) := (Below.refl _ w).alloc (Nat.le_refl _) _
  go_enter Tryz.func16, Tryz.ntmps16
  go_wp2_with (go_at_call 15; (with_reducible refine (HR.out _).mono ?_); rintro e w1 ⟨rfl, hb⟩; have x0 := Blk.below (b := w.heap.size) (cs := #[.int .i64 5, .int .i64 i, .string s]) (t := 31) (Blk.at rfl) hb; have y0 := x0.cell 0; have y1 := x0.cell 1; have y2 := x0.cell 2; simp only [List.getElem?_toArray, List.getElem?_cons_zero, List.getElem?_cons_succ] at y0 y1 y2; have bw := b0.trans (hb.mono b0.size); clear hb b0)
  clear x0
  go_loopw [8, 9] (fun v i wr => ∃ k : Nat, k ≤ s.size ∧ i = .int .i64 k ∧ v = .string ⟨(120 :: 39 :: hexL (s.data.toList.take k)).toArray⟩ ∧ wr.cell? ⟨w.heap.size, 2, none⟩ = some (.string s) ∧ Below w.heap.size w wr) (fun _ i _ => s.size - (intOf i).toNat)
  case atStart => exact ⟨0, Nat.zero_le _, rfl, rfl, y2, bw⟩
  case round =>
    obtain ⟨k, hk, rfl, rfl, hy, bw'⟩ := hrel
    have hl : (hexL (s.data.toList.take k)).length ≤ 2000 := by rw [hexL_len]; have h2 := List.length_take_le k s.data.toList; omega
    clear y0 y1 y2 bw
    by_cases hlt : k < s.size
    · have hq := hex_step s k hlt
      have HQ := Lib.hid hq
      clear hq
      obtain ⟨c, hc⟩ : ∃ c : Nat, s[k].toNat = c := ⟨_, rfl⟩
      have hc1 : c < 256 := hc ▸ UInt8.toNat_lt _
      have hlti : (k : Int) < (s.size : Int) := by omega
      go_wp2
      go_quiet ((go_at_call 26; exact Calls.quiet_of_same (rhex_any _ _ (by omega) (by omega))))
      go_wp2
      go_roundw
      case rel =>
        refine ⟨k + 1, by omega, by go_num, str_val _ _ ?_, by rw [World.cell?_drewN]; exact hy, below_drewN bw' _⟩
        rw [HQ.out, hc]
        simp [ByteArray.data_append]
      case measure => simp [intOf]; omega
    · have ht : s.data.toList.take k = s.data.toList := List.take_of_length_le (by rw [Array.length_toList]; show s.size ≤ k; omega)
      rw [ht] at hl ⊢
      clear ht
      go_wp2
      go_ret
      refine ⟨str_ret _ _ ?_, bw'⟩
      simp [ByteArray.data_append]

end Go.Proofs.YtlmjijiepnefdaaGreatDoor
