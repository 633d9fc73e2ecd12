/-
  The contracts of the reference's Letter, Digit, Word and Name.
-/
import Derived.Test.YtlmjijiepnefdaaGreatDoorRefW
import Derived.Deep.QuietTactic
import Derived.BigQuiet
namespace Go.Proofs.YtlmjijiepnefdaaGreatDoor
open Go.RowKit

theorem ret_bool {a b : Bool} (h : a = b) : Ending.returned (.bool a) = .returned (.bool b) := by rw [h]
theorem refLetter_any (x : UInt8) (w : World) : Calls Tryz.prog 27 #[.int .u8 (x.toNat : Int)] w fun e w' => e = .returned (.bool (letterB x)) ∧ w' = w := by
  have HI := Lib.hid (letter_u8 x)
  obtain ⟨c, hc⟩ : ∃ c : Nat, x.toNat = c := ⟨_, rfl⟩
  have h1 : c < 256 := hc ▸ UInt8.toNat_lt _
  rw [hc] at HI ⊢
  clear hc
  generalize letterB x = b at *
  go_enter Tryz.func27, Tryz.ntmps27
  go_wp2
  all_goals
    go_ret
    refine ⟨ret_bool ?_, rfl⟩
    rw [← HI.out]
    unfold letterI
    rw [Bool.eq_iff_iff]
    simp
    omega
theorem refDigit_any (x : UInt8) (w : World) : Calls Tryz.prog 28 #[.int .u8 (x.toNat : Int)] w fun e w' => e = .returned (.bool (digitB x)) ∧ w' = w := by
  have HI := Lib.hid (digit_u8 x)
  obtain ⟨c, hc⟩ : ∃ c : Nat, x.toNat = c := ⟨_, rfl⟩
  have h1 : c < 256 := hc ▸ UInt8.toNat_lt _
  rw [hc] at HI ⊢
  clear hc
  generalize digitB x = b at *
  go_enter Tryz.func28, Tryz.ntmps28
  go_wp2
  all_goals
    go_ret
    refine ⟨ret_bool ?_, rfl⟩
    rw [← HI.out]
    unfold digitI
    rw [Bool.eq_iff_iff]
    simp
    try omega

/-- The words of the language, as the reference has them. -/
def allL : List UInt8 := 32 :: (wordsL.flatMap fun u => u ++ [32])
def hitW (l : List UInt8) (i : Nat) : Prop := (allL.drop i).take (l.length + 2) = 32 :: (l ++ [32])
theorem allL_len : allL.length = 275 := by decide +kernel
theorem hit_of_word : ∀ u ∈ wordsL, ∃ i ∈ List.range 275, i + (u.length + 2) ≤ 275 ∧ (allL.drop i).take (u.length + 2) = 32 :: (u ++ [32]) := by decide +kernel
theorem word_of_at : ∀ i ∈ List.range 275, (allL.drop i).head? = some 32 → (allL.drop (i + 1)).takeWhile (fun c => c != 32) = [] ∨ (allL.drop (i + 1)).takeWhile (fun c => c != 32) ∈ wordsL := by decide +kernel
theorem word_hit {l : List UInt8} (hne : l ≠ []) (hl : ∀ c ∈ l, c ≠ 32) : isWord l = true ↔ ∃ i, i + (l.length + 2) ≤ 275 ∧ hitW l i := by
  rw [isWord_iff]
  constructor
  · intro h
    obtain ⟨i, _, h1, h2⟩ := hit_of_word l h
    exact ⟨i, h1, h2⟩
  · rintro ⟨i, h1, h2⟩
    unfold hitW at h2
    have hd : allL.drop i = 32 :: (l ++ 32 :: (allL.drop i).drop (l.length + 2)) := by
      conv => lhs; rw [← List.take_append_drop (l.length + 2) (allL.drop i), h2]
      simp
    have hd1 : allL.drop (i + 1) = l ++ 32 :: (allL.drop i).drop (l.length + 2) := by
      rw [← List.drop_drop, hd]; simp
    have ht : (allL.drop (i + 1)).takeWhile (fun c => c != 32) = l := by
      rw [hd1, List.takeWhile_append_of_pos (fun c hc => by simpa using hl c hc)]
      simp
    rcases word_of_at i (by simp; omega) (by rw [hd]; rfl) with h | h
    · rw [ht] at h; exact absurd h hne
    · rw [ht] at h; exact h

theorem hit_iff {X want : ByteArray} {l : List UInt8} {k n : Nat} {b : Bool} (hX : X.data.toList = allL) (hw : want.data.toList = 32 :: (l ++ [32])) (hn : l.length = n) (h : ((X.extract k (k + (n + 2))).toList == want.toList) = b) : b = true ↔ hitW l k := by
  rw [← h, beq_iff_eq, ByteArray.toList_eq, ByteArray.toList_eq, Lib.extract_data, hX, hw, hn.symm]
  unfold hitW
  rw [show k + (l.length + 2) - k = l.length + 2 by omega]

set_option maxHeartbeats 4000000 in
set_option maxRecDepth 100000 in
theorem refWord_any (s : ByteArray) (w : World) (hs : s.size ≤ 140737488350000) : Calls Tryz.prog 11 #[.string s] w fun e w' => e = .returned (.bool (isWord s.data.toList)) ∧ w' = w := by
  by_cases h0 : s.size = 0
  · have hb : isWord s.data.toList = false := by
      have : s.data.toList = [] := List.eq_nil_of_length_eq_zero (by rw [size_list]; exact h0)
      rw [this]; decide +kernel
    have HB := Lib.hid hb
    have e3 : s.toList.isEmpty = true := by
      rw [ByteArray.toList_eq, List.isEmpty_iff]
      exact List.eq_nil_of_length_eq_zero (by rw [size_list]; exact h0)
    clear hb h0 hs
    go_enter Tryz.func11, Tryz.ntmps11
    go_wp2
    go_ret
    exact ⟨by rw [HB.out]; rfl, rfl⟩
  · have e3 : s.toList.isEmpty = false := by
      have : ¬ s.toList = [] := by
        intro h
        rw [ByteArray.toList_eq] at h
        have := congrArg List.length h
        rw [Array.length_toList] at this
        exact h0 this
      simpa using this
    have HN : Hid (s.data.toList ≠ []) := by
      intro h
      have := congrArg List.length h
      rw [size_list] at this
      exact h0 this
    clear h0
    go_enter Tryz.func11, Tryz.ntmps11
    go_wp2_with fail
    go_loopw [3] (fun i wr => ∃ k : Nat, i = .int .i64 k ∧ k ≤ s.size ∧ wr = w ∧ Hid (∀ c ∈ s.data.toList.take k, c ≠ 32)) (fun i _ => s.size - (intOf i).toNat)
    case atStart => exact ⟨0, rfl, Nat.zero_le _, rfl, by unfold Hid; simp⟩
    case round =>
      obtain ⟨k, rfl, hk, rfl, HT⟩ := hrel
      by_cases hlt : k < s.size
      · obtain ⟨c, hc⟩ : ∃ c : Nat, s[k].toNat = c := ⟨_, rfl⟩
        have hc1 : c < 256 := hc ▸ UInt8.toNat_lt _
        have HK := Lib.hid (show s.data.toList.take (k + 1) = s.data.toList.take k ++ [s[k]] from take_snoc s k hlt)
        by_cases h32 : c = 32
        · have HB : Hid (isWord s.data.toList = false) := by
            unfold Hid
            rw [Bool.eq_false_iff]
            intro h
            have hm : s[k] ∈ s.data.toList := List.mem_of_mem_take (i := k + 1) (by rw [HK.out]; simp)
            have hw : ∀ u ∈ wordsL, ∀ c ∈ u, c ≠ 32 := by decide +kernel
            exact hw _ ((isWord_iff _).1 h) _ hm (UInt8.toNat_inj.1 (hc.trans h32))
          subst h32
          go_wp2_with fail
          go_ret
          exact ⟨by rw [HB.out]; rfl, rfl⟩
        · have hne : Hid (s[k] ≠ 32) := fun h => h32 (by rw [← hc, h]; rfl)
          have hb : ((c : Int) == 32) = false := by simp; omega
          go_wp2_with fail
          go_roundw
          case rel =>
            refine ⟨k + 1, by go_num, by omega, by trivial, ?_⟩
            unfold Hid
            rw [HK.out]
            intro x hx
            rw [List.mem_append] at hx
            rcases hx with hx | hx
            · exact HT.out x hx
            · rw [List.mem_singleton] at hx; subst hx; exact hne.out
          case measure => simp [intOf]; omega
      · obtain rfl : k = s.size := by omega
        have HW := Lib.hid (word_hit HN.out (by have := HT.out; rwa [List.take_of_length_le (by rw [size_list]; exact Nat.le_refl _)] at this))
        clear HT HN
        go_wp2_with fail
        have hws : (⟨#[32]⟩ ++ s ++ ⟨#[32]⟩ : ByteArray).size = s.size + 2 := by rw [ByteArray.size_append, ByteArray.size_append]; show 1 + s.size + 1 = _; omega
        have HWd : Hid ((⟨#[32]⟩ ++ s ++ ⟨#[32]⟩ : ByteArray).data.toList = 32 :: (s.data.toList ++ [32])) := by unfold Hid; simp [ByteArray.data_append]
        generalize (⟨#[32]⟩ ++ s ++ ⟨#[32]⟩ : ByteArray) = want at *
        go_loopw [5] (fun i wq => ∃ k : Nat, i = .int .i64 k ∧ k ≤ 276 ∧ wq = wr ∧ Hid (∀ j, j < k → j + (s.data.toList.length + 2) ≤ 275 → ¬ hitW s.data.toList j)) (fun i _ => 276 - (intOf i).toNat)
        case atStart => exact ⟨0, rfl, Nat.zero_le _, rfl, by unfold Hid; intro j hj; exact absurd hj (Nat.not_lt_zero _)⟩
        case round =>
          obtain ⟨k, rfl, hk, rfl, HJ⟩ := hrel
          by_cases hlt : k + (s.size + 2) ≤ 275
          · have hki : (k : Int) + ((s.size : Int) + 2) ≤ 275 := by omega
            go_wp2_with fail
            · rename_i h
              have hh := (hit_iff (by kernel_rfl) HWd.out (size_list s) h).1 rfl
              go_ret
              exact ⟨by rw [HW.out.2 ⟨k, by rw [size_list]; exact hlt, hh⟩]; rfl, rfl⟩
            · rename_i h
              have hh := hit_iff (by kernel_rfl) HWd.out (size_list s) h
              refine ⟨⟨k + 1, by go_num, by omega, by trivial, ?_⟩, by simp [intOf]; omega⟩
              unfold Hid
              intro j hj hr hit
              by_cases he : j = k
              · subst he; exact absurd (hh.2 hit) (by simp)
              · exact HJ.out j (by omega) hr hit
          · have hki : ¬ (k : Int) + ((s.size : Int) + 2) ≤ 275 := by omega
            have hF : isWord s.data.toList = false := by
              rw [Bool.eq_false_iff]
              intro h
              obtain ⟨i, h1, h2⟩ := HW.out.1 h
              have h3 := size_list s
              exact HJ.out i (by omega) h1 h2
            have HF := Lib.hid hF
            clear hF
            go_wp2_with fail
            go_ret
            exact ⟨by rw [HF.out]; rfl, rfl⟩

end Go.Proofs.YtlmjijiepnefdaaGreatDoor
