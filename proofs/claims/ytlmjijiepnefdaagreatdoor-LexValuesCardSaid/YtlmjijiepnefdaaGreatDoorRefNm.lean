/-
  The contract of the reference's Name.
-/
import Derived.Test.YtlmjijiepnefdaaGreatDoorRefN
namespace Go.Proofs.YtlmjijiepnefdaaGreatDoor
open Go.RowKit

/-- A name, in small letters. -/
structure NameOK (l : List UInt8) : Prop where
  ne : l ≠ []
  len : l.length ≤ 20
  head : letterB (l.getD 0 0) = true
  all : ∀ c ∈ l, nameB c = true
  low : Lib.toLowerA l = l
  no : isWord (Lib.toUpperA l) = false

set_option maxHeartbeats 4000000 in
set_option maxRecDepth 100000 in
theorem refName_any (s : ByteArray) (w : World) : Calls Tryz.prog 17 #[.string s] w fun e w' => ∃ b, e = .returned (.bool b) ∧ (b = true → NameOK s.data.toList) ∧ Below w.heap.size w w' := by
  by_cases h0 : s.size = 0
  · have e3 : s.toList.isEmpty = true := by
      rw [ByteArray.toList_eq, List.isEmpty_iff]
      exact List.eq_nil_of_length_eq_zero (by rw [size_list]; exact h0)
    clear h0
    go_enter Tryz.func17, Tryz.ntmps17
    go_wp2_with fail
    go_ret
    exact ⟨false, rfl, (fun h => Bool.noConfusion h), Below.refl _ _⟩
  have e3 : s.toList.isEmpty = false := by
    have : ¬ s.toList = [] := by
      intro h
      rw [ByteArray.toList_eq] at h
      have := congrArg List.length h
      rw [Array.length_toList] at this
      exact h0 this
    simpa using this
  by_cases h20 : s.size ≤ 20
  · have h20i : ¬ (20 : Int) < (s.size : Int) := by omega
    have hp : 0 < s.size := by omega
    have hpi : (0 : Int) < (s.size : Int) := by omega
    cases hl : letterB s[0] with
    | false =>
      have HL := Lib.hid hl
      clear hl h0
      go_enter Tryz.func17, Tryz.ntmps17
      go_wp2_with (go_at_call 27; (with_reducible refine (refLetter_any _ _).mono ?_); rintro e w' ⟨rfl, rfl⟩; rw [HL.out])
      go_ret
      exact ⟨false, rfl, (fun h => Bool.noConfusion h), Below.refl _ _⟩
    | true =>
      have HL := Lib.hid hl
      clear hl h0
      go_enter Tryz.func17, Tryz.ntmps17
      go_wp2_with (go_at_call 27; (with_reducible refine (refLetter_any _ _).mono ?_); rintro e w' ⟨rfl, rfl⟩; rw [HL.out])
      go_loopw [3] (fun i wr => ∃ k : Nat, i = .int .i64 k ∧ k ≤ s.size ∧ wr = w' ∧ Hid (∀ c ∈ s.data.toList.take k, nameB c = true)) (fun i _ => s.size - (intOf i).toNat)
      case atStart => exact ⟨0, rfl, Nat.zero_le _, rfl, by unfold Hid; simp⟩
      case round =>
        obtain ⟨k, rfl, hk, rfl, HT⟩ := hrel
        by_cases hlt : k < s.size
        · have HK := Lib.hid (show s.data.toList.take (k + 1) = s.data.toList.take k ++ [s[k]] from take_snoc s k hlt)
          have HX : Hid (nameB s[k] = true → ∀ c ∈ s.data.toList.take (k + 1), nameB c = true) := by
            unfold Hid
            rw [HK.out]
            intro hn x hx
            rw [List.mem_append] at hx
            rcases hx with hx | hx
            · exact HT.out x hx
            · rw [List.mem_singleton] at hx; subst hx; exact hn
          cases hlk : letterB s[k] with
          | true =>
            have HLk := Lib.hid hlk
            have HNk := Lib.hid (letter_name _ hlk)
            clear hlk
            go_wp2_with (go_at_call 27; (with_reducible refine (refLetter_any _ _).mono ?_); rintro e w'' ⟨rfl, rfl⟩; rw [HLk.out])
            go_roundw
            case rel => exact ⟨k + 1, by go_num, by omega, by trivial, HX.out HNk.out⟩
            case measure => simp [intOf]; omega
          | false =>
            have HLk := Lib.hid hlk
            cases hdk : digitB s[k] with
            | true =>
              have HDk := Lib.hid hdk
              have HNk := Lib.hid (show nameB s[k] = true by unfold nameB; rw [hlk, hdk]; rfl)
              clear hlk hdk
              go_wp2_with (first
                | (go_at_call 27; (with_reducible refine (refLetter_any _ _).mono ?_); rintro e w'' ⟨rfl, rfl⟩; rw [HLk.out])
                | (go_at_call 28; (with_reducible refine (refDigit_any _ _).mono ?_); rintro e w'' ⟨rfl, rfl⟩; rw [HDk.out]))
              go_roundw
              case rel => exact ⟨k + 1, by go_num, by omega, by trivial, HX.out HNk.out⟩
              case measure => simp [intOf]; omega
            | false =>
              have HDk := Lib.hid hdk
              clear hlk hdk
              go_wp2_with (first
                | (go_at_call 27; (with_reducible refine (refLetter_any _ _).mono ?_); rintro e w'' ⟨rfl, rfl⟩; rw [HLk.out])
                | (go_at_call 28; (with_reducible refine (refDigit_any _ _).mono ?_); rintro e w'' ⟨rfl, rfl⟩; rw [HDk.out]))
              go_ret
              exact ⟨false, rfl, (fun h => Bool.noConfusion h), Below.refl _ _⟩
        · obtain rfl : k = s.size := by omega
          rw [List.take_of_length_le (by rw [size_list]; exact Nat.le_refl _)] at HT
          have HO : Hid (NameOK s.data.toList ↔ Lib.toLowerA s.data.toList = s.data.toList ∧ isWord (Lib.toUpperA s.data.toList) = false) := by
            constructor
            · intro h; exact ⟨h.low, h.no⟩
            · intro h
              refine ⟨?_, by rw [size_list]; exact h20, ?_, HT.out, h.1, h.2⟩
              · intro e
                have := congrArg List.length e
                rw [size_list, List.length_nil] at this
                omega
              · have : s.data.toList.getD 0 0 = s[0] := by
                  rw [List.getD_eq_getElem?_getD, List.getElem?_eq_getElem (by simpa using hp)]; rfl
                rw [this]; exact HL.out
          have hup : (⟨(Lib.toUpperA s.data.toList).toArray⟩ : ByteArray).size ≤ 140737488350000 := by
            show (Lib.toUpperA s.data.toList).length ≤ _
            unfold Lib.toUpperA
            rw [List.length_map, size_list]; omega
          clear HT
          go_wp2_with fail
          refine (refLower_any s _ (by omega)).mono ?_
          rintro e w3 ⟨rfl, b3⟩
          by_cases hlow : Lib.toLowerA s.data.toList = s.data.toList
          · have hb : (Lib.toLowerA s.data.toList == s.toList) = true := by
              rw [ByteArray.toList_eq, beq_iff_eq]; exact hlow
            have HLow := Lib.hid hlow
            clear hlow
            go_wp2_with fail
            refine (refUpper_any s _ (by omega)).mono ?_
            rintro e w4 ⟨rfl, b4⟩
            go_wp2_with fail
            refine (refWord_any _ _ hup).mono ?_
            rintro e w5 ⟨rfl, rfl⟩
            go_wp2
            go_ret
            refine ⟨_, rfl, ?_, b3.trans (b4.mono b3.size)⟩
            intro h
            exact HO.out.2 ⟨HLow.out, by simpa using h⟩
          · have hb : (Lib.toLowerA s.data.toList == s.toList) = false := by
              rw [ByteArray.toList_eq, beq_eq_false_iff_ne]; exact hlow
            clear hlow
            go_wp2_with fail
            go_ret
            exact ⟨false, rfl, (fun h => Bool.noConfusion h), b3⟩
  · have h20i : (20 : Int) < (s.size : Int) := by omega
    clear h0 h20
    go_enter Tryz.func17, Tryz.ntmps17
    go_wp2_with fail
    go_ret
    exact ⟨false, rfl, (fun h => Bool.noConfusion h), Below.refl _ _⟩

end Go.Proofs.YtlmjijiepnefdaaGreatDoor
