/-
  The contract of row's appendText: the text's bytes, each 0 followed by a 1, and two bytes 0, behind what the slice holds; it makes memory of its own alone.
-/
import Derived.Test.YtoikbdgbhgokaaaDoorNum
namespace Go.Proofs.YtoikbdgbhgokaaaDoor
open Go.RowKit

theorem esc_append : ∀ a b : List UInt8, esc (a ++ b) = esc a ++ esc b
  | [], b => rfl
  | x :: a, b => by
    rw [List.cons_append, esc, esc, esc_append a b]
    split <;> simp
theorem esc_one (b : UInt8) (h : b ≠ 0) : esc [b] = [b] := by simp [esc, h]
theorem esc_zero : esc [0] = [0, 1] := rfl
theorem esc_take (s : ByteArray) (k : Nat) (h : k < s.size) : esc (s.data.toList.take (k + 1)) = esc (s.data.toList.take k) ++ esc [s[k]] := by
  rw [← esc_append]
  congr 1
  rw [List.take_succ_eq_append_getElem (by simpa using h)]; rfl
theorem esc_take_len (s : ByteArray) (k : Nat) : (esc (s.data.toList.take k)).length ≤ 2 * s.size := by
  have h1 := esc_length (s.data.toList.take k)
  have h2 : (s.data.toList.take k).length ≤ s.size := by rw [List.length_take, Array.length_toList]; exact Nat.min_le_right _ _
  omega

theorem bel_app {w wr w1 : World} {base : Nat} {v : Value} {l : List UInt8} {o : Obj} (hb : Below base w wr) (ho : OwnB wr base v l) (hz : base ≤ wr.heap.size) (hg : (wr.alloc o).grownBy w1 v.ownBlock) : Below base w w1 :=
  hb.trans (Below.trans ((Below.refl base wr).alloc hz _) (own_below (ho.alloc _) (by simp; omega) hg))

set_option maxRecDepth 100000 in
set_option maxHeartbeats 4000000 in
theorem appText (base : Nat) (v : Value) (l : List UInt8) (s : ByteArray) (w : World) (hown : OwnB w base v l) (hbase : base ≤ w.heap.size) (hlen : l.length ≤ 70368744177664) (hs : s.size ≤ 1000) :
    Calls Tryd.prog 47 #[v, .string s] w (AppPost base w (l ++ (esc s.data.toList ++ [0, 0]))) := by
  go_enter Tryd.func47, Tryd.ntmps47
  go_wp2
  go_loopw [0, 8] (fun u i wr => ∃ k : Nat, k ≤ s.size ∧ i = .int .i64 k ∧ OwnB wr base u (l ++ esc (s.data.toList.take k)) ∧ Below base w wr) (fun _ i _ => s.size - (intOf i).toNat)
  case atStart => exact ⟨0, by omega, rfl, by simpa [esc] using hown, Below.refl _ _⟩
  case round =>
    obtain ⟨k, hk, rfl, ho, hb⟩ := hrel
    have hz := hb.size
    have hel := esc_take_len s k
    by_cases hlt : k < s.size
    · have HT := Lib.hid (esc_take s k hlt)
      by_cases h0 : s[k] = 0
      · have h0b : ((s[k].toNat : Int) == 0) = true := by rw [h0]; rfl
        have H0 := Lib.hid h0
        clear h0
        go_wp2_with (at_builtin; refine wpList_append_bytes _ rfl _ _ rfl base _ _ rfl (ho.alloc _) ⟨wr.heap.size, 0, none⟩ [s[k]] 1 1 rfl rfl (news_one wr _ _ rfl _ rfl) (by rw [List.length_append]; omega) (by simp; omega) ?_)
        intro v1 w1 ho1 hg
        have hb1 := bel_app hb ho (by omega) hg
        have hz1 := hb1.size
        clear hg ho
        go_wp2_with (at_builtin; refine wpList_append_bytes _ rfl _ _ rfl base _ _ rfl (ho1.alloc _) ⟨w1.heap.size, 0, none⟩ [1] 1 1 rfl rfl (news_one w1 _ _ rfl _ rfl) (by simp only [List.length_append, List.length_cons, List.length_nil]; omega) (by simp; omega) ?_)
        intro v2 w2 ho2 hg
        have hb2 := bel_app hb1 ho1 (by omega) hg
        have ho3 : OwnB w2 base v2 (l ++ esc (s.data.toList.take (k + 1))) := by
          rw [HT.out, H0.out, esc_zero]
          rw [H0.out] at ho2
          simpa using ho2
        clear hg ho1 ho2
        go_wp2
        go_roundw
        case rel => exact ⟨k + 1, by omega, by go_num, ho3, hb2⟩
        case measure => simp [intOf]; omega
      · have h0b : ((s[k].toNat : Int) == 0) = false := by
          rw [beq_eq_false_iff_ne]
          intro h
          exact h0 (UInt8.toNat_inj.mp (by rw [show (0 : UInt8).toNat = 0 from rfl]; omega))
        have H0 := Lib.hid h0
        clear h0
        go_wp2_with (at_builtin; refine wpList_append_bytes _ rfl _ _ rfl base _ _ rfl (ho.alloc _) ⟨wr.heap.size, 0, none⟩ [s[k]] 1 1 rfl rfl (news_one wr _ _ rfl _ rfl) (by rw [List.length_append]; omega) (by simp; omega) ?_)
        intro v1 w1 ho1 hg
        have hb1 := bel_app hb ho (by omega) hg
        have ho3 : OwnB w1 base v1 (l ++ esc (s.data.toList.take (k + 1))) := by
          rw [HT.out, esc_one _ H0.out]
          simpa using ho1
        clear hg ho ho1
        go_wp2
        go_roundw
        case rel => exact ⟨k + 1, by omega, by go_num, ho3, hb1⟩
        case measure => simp [intOf]; omega
    · obtain rfl : k = s.size := by omega
      rw [List.take_of_length_le (by rw [Array.length_toList]; exact Nat.le_refl _)] at ho
      have hel2 := esc_length s.data.toList
      rw [Array.length_toList] at hel2
      have hel3 : (esc s.data.toList).length ≤ 2 * s.size := hel2
      clear hel hel2
      go_wp2_with (at_builtin; refine wpList_append_bytes _ rfl _ _ rfl base _ _ rfl (ho.alloc _) ⟨wr.heap.size, 0, none⟩ [0, 0] 2 2 rfl rfl (news_two wr _ _ _ _ rfl rfl _ rfl) (by rw [List.length_append]; omega) (by simp; omega) ?_)
      intro v1 w1 ho1 hg
      have hb1 := bel_app hb ho (by omega) hg
      clear hg ho
      go_wp2
      go_ret
      exact ⟨_, rfl, by simpa using ho1, hb1⟩

end Go.Proofs.YtoikbdgbhgokaaaDoor
