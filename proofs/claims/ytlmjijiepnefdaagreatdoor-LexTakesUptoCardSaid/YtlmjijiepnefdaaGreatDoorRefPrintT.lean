/-
  The contract of the reference's Print of a TEXT.
-/
import Derived.Test.YtlmjijiepnefdaaGreatDoorRefPrint
namespace Go.Proofs.YtlmjijiepnefdaaGreatDoor
open Go.RowKit

theorem quote_step (s : ByteArray) (k : Nat) (h : k < s.size) : 39 :: quoteL (s.data.toList.take (k + 1)) = (39 :: quoteL (s.data.toList.take k)) ++ (if s[k] = 39 then [39, 39] else [s[k]]) := by
  rw [take_snoc s k h, quoteL_append]; simp [quoteL]

theorem extract_one (s : ByteArray) (k : Nat) (h : k < s.size) : List.take 1 (List.drop k s.data.toList) = [s[k]] := by
  have hl : k < s.data.toList.length := by rw [Array.length_toList]; exact h
  rw [List.drop_eq_getElem_cons hl]; rfl

set_option maxHeartbeats 4000000 in
set_option maxRecDepth 100000 in
theorem rprint_text (i : Int) (s : ByteArray) (w : World) (hs : s.size ≤ 1000) (HR : Hid (∀ w' : World, Calls Tryz.prog 15 #[.agg #[.int .i64 4, .int .i64 i, .string s]] w' (RightPost true w'))) :
    Calls Tryz.prog 16 #[.agg #[.int .i64 4, .int .i64 i, .string s]] w (StrPost (39 :: (quoteL s.data.toList ++ [39])) w) := by
  have b0 : Below w.heap.size w (w.alloc (.cells #[.int .i64 4, .int .i64 i, .string s] 31)) := (Below.refl _ w).alloc (Nat.le_refl _) _
  go_enter Tryz.func16, Tryz.ntmps16
  go_wp2_with (go_at_call 15; (with_reducible refine (HR.out _).mono ?_); rintro e w1 ⟨rfl, hb⟩; have x0 := Blk.below (b := w.heap.size) (cs := #[.int .i64 4, .int .i64 i, .string s]) (t := 31) (Blk.at rfl) hb; have y0 := x0.cell 0; have y1 := x0.cell 1; have y2 := x0.cell 2; simp only [List.getElem?_toArray, List.getElem?_cons_zero, List.getElem?_cons_succ] at y0 y1 y2; have bw := b0.trans (hb.mono b0.size); clear hb b0)
  clear x0
  go_loop [6, 7] (fun v i => ∃ k : Nat, k ≤ s.size ∧ i = .int .i64 k ∧ v = .string ⟨(39 :: quoteL (s.data.toList.take k)).toArray⟩) (fun _ i => s.size - (intOf i).toNat)
  case atStart => exact ⟨0, Nat.zero_le _, rfl, rfl⟩
  case round =>
    obtain ⟨k, hk, rfl, rfl⟩ := hrel
    have hl : (quoteL (s.data.toList.take k)).length ≤ 2000 := by have h1 := quoteL_len (s.data.toList.take k); have h2 := List.length_take_le k s.data.toList; omega
    by_cases hlt : k < s.size
    · have hq := quote_step s k hlt
      have hx := extract_one s k hlt
      have HQ := Lib.hid hq
      have HX := Lib.hid hx
      clear hq hx
      obtain ⟨c, hc⟩ : ∃ c : Nat, s[k].toNat = c := ⟨_, rfl⟩
      have hc1 : c < 256 := hc ▸ UInt8.toNat_lt _
      by_cases h39 : c = 39
      · have hE : Hid (s[k] = 39) := UInt8.toNat_inj.mp (by rw [hc, h39]; rfl)
        subst h39
        go_wp2
        go_round
        case rel =>
          refine ⟨k + 1, by omega, by go_num, str_val _ _ ?_⟩
          rw [HQ.out, if_pos hE.out]
          simp [ByteArray.data_append, HX.out, hE.out]
        case measure => simp [intOf]; omega
      · have hE : Hid (¬ s[k] = 39) := fun h => h39 (by rw [← hc, h]; rfl)
        have hb : ((c : Int) == 39) = false := by simp; omega
        go_wp2
        go_round
        case rel =>
          refine ⟨k + 1, by omega, by go_num, str_val _ _ ?_⟩
          rw [HQ.out, if_neg hE.out]
          simp [ByteArray.data_append, HX.out]
        case measure => simp [intOf]; omega
    · have ht : s.data.toList.take k = s.data.toList := List.take_of_length_le (by rw [Array.length_toList]; show s.size ≤ k; omega)
      rw [ht] at hl ⊢
      clear ht
      go_wp2
      go_ret
      refine ⟨str_ret _ _ ?_, bw⟩
      simp [ByteArray.data_append]

end Go.Proofs.YtlmjijiepnefdaaGreatDoor
