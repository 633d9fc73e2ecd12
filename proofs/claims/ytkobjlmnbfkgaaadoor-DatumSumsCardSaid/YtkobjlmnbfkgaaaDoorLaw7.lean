/-
  The walk of the law DatumSums: it returns true of every two values.
-/
import Derived.Test.YtkobjlmnbfkgaaaDoorLaw7P
import Derived.Test.YtkobjlmnbfkgaaaDoorLaw7A
import Derived.Test.YtkobjlmnbfkgaaaDoorLaw7B
namespace Go.Proofs.YtkobjlmnbfkgaaaDoor
open Go.RowKit

theorem str_nil (s : ByteArray) (h : s.toList.isEmpty = true) : s = noText := by
  rw [ByteArray.toList_eq] at h
  have : s.data = #[] := by simpa using h
  cases s; cases this; rfl

/-- It is no number without a text. -/
theorem num_no (k i : Int) (s : ByteArray) (w : World) (h : (k == 2) = false ∧ (k == 3) = false ∨ s.toList.isEmpty = false) :
    Calls Tryd.prog 21 #[.agg #[.int .i64 k, .int .i64 i, .string s]] w fun e w' => e = .returned (.bool false) ∧ w' = w.alloc (.cells #[.int .i64 k, .int .i64 i, .string s] 23) := by
  by_cases h2 : k = 2
  · subst h2
    replace h : s.toList.isEmpty = false := by simpa using h
    go_enter Tryd.func21, Tryd.ntmps21
    go_wp2
    go_ret
    exact ⟨by first | rfl | (simp [h]; done), rfl⟩
  · by_cases h3 : k = 3
    · subst h3
      replace h : s.toList.isEmpty = false := by simpa using h
      go_enter Tryd.func21, Tryd.ntmps21
      go_wp2
      go_ret
      exact ⟨by first | rfl | (simp [h]; done), rfl⟩
    · have e2 : (k == 2) = false := by simpa using h2
      have e3 : (k == 3) = false := by simpa using h3
      clear h h2 h3
      go_enter Tryd.func21, Tryd.ntmps21
      go_wp2
      go_ret
      exact ⟨rfl, rfl⟩

theorem num_dec (k : Int) (s : ByteArray) : ((k = 2 ∨ k = 3) ∧ s = noText) ∨ ((k == 2) = false ∧ (k == 3) = false ∨ s.toList.isEmpty = false) := by
  cases hs : s.toList.isEmpty
  · exact .inr (.inr rfl)
  · by_cases hk : k = 2 ∨ k = 3
    · exact .inl ⟨hk, str_nil s hs⟩
    · exact .inr (.inl ⟨by simp; omega, by simp; omega⟩)

set_option maxRecDepth 100000 in
theorem sums_no1 (k1 i1 : Int) (s1 : ByteArray) (k2 i2 : Int) (s2 : ByteArray) (w : World) (h : Hid ((k1 == 2) = false ∧ (k1 == 3) = false ∨ s1.toList.isEmpty = false)) :
    Calls Tryd.prog 7 #[.agg #[.int .i64 k1, .int .i64 i1, .string s1], .agg #[.int .i64 k2, .int .i64 i2, .string s2]] w fun e w' => e = .returned (.bool true) ∧ Below w.heap.size w w' := by
  go_enter Tryd.func7, Tryd.ntmps7
  go_wp2_with (go_at_call 21; (with_reducible refine (num_no k1 i1 s1 _ h.out).mono ?_); rintro e w' ⟨rfl, rfl⟩)
  go_ret
  exact ⟨rfl, by repeat (first | exact Below.refl _ _ | refine Below.alloc ?_ (by simp <;> omega) _)⟩

set_option maxRecDepth 100000 in
theorem sums_no2 (k1 i1 k2 i2 : Int) (s2 : ByteArray) (w : World) (hk1 : Hid (k1 = 2 ∨ k1 = 3)) (h : Hid ((k2 == 2) = false ∧ (k2 == 3) = false ∨ s2.toList.isEmpty = false)) :
    Calls Tryd.prog 7 #[.agg #[.int .i64 k1, .int .i64 i1, .string noText], .agg #[.int .i64 k2, .int .i64 i2, .string s2]] w fun e w' => e = .returned (.bool true) ∧ Below w.heap.size w w' := by
  go_enter Tryd.func7, Tryd.ntmps7
  go_wp2_with (go_at_call 21; (first | (with_reducible refine (num_yes k1 i1 _ hk1.out).mono ?_) | (with_reducible refine (num_no k2 i2 s2 _ h.out).mono ?_)); rintro e w' ⟨rfl, rfl⟩)
  go_ret
  exact ⟨rfl, by repeat (first | exact Below.refl _ _ | refine Below.alloc ?_ (by simp <;> omega) _)⟩

theorem recE_cases (R : Int × Bool) (k1 i1 k2 i2 : Int) : recE R k1 i1 k2 i2 = 0 ∨ recE R k1 i1 k2 i2 = 4 := by
  unfold recE; split
  · exact .inl rfl
  · exact .inr rfl

theorem sums_any (k1 i1 : Int) (s1 : ByteArray) (k2 i2 : Int) (s2 : ByteArray) (w : World) (b1 : In64 i1) (b2 : In64 i2) :
    Calls Tryd.prog 7 #[.agg #[.int .i64 k1, .int .i64 i1, .string s1], .agg #[.int .i64 k2, .int .i64 i2, .string s2]] w fun e w' => e = .returned (.bool true) ∧ Below w.heap.size w w' := by
  rcases num_dec k1 s1 with ⟨hk1, rfl⟩ | h1
  case inr => exact sums_no1 k1 i1 s1 k2 i2 s2 w (Lib.hid h1)
  rcases num_dec k2 s2 with ⟨hk2, rfl⟩ | h2
  case inr => exact sums_no2 k1 i1 k2 i2 s2 w (Lib.hid hk1) (Lib.hid h2)
  obtain ⟨R1, hR1, C1, C2⟩ := adds k1 i1 k2 i2 hk1 hk2 b1 b2
  obtain ⟨R2, C3, C4⟩ := muls k1 i1 k2 i2 hk1 hk2 b1 b2
  have hE2 := recE_cases R2 k1 i1 k2 i2
  have hE1 : (recE R1 k1 i1 k2 i2 = 0 ∧ (recK R1 k1 i1 k2 i2 = 2 ∨ recK R1 k1 i1 k2 i2 = 3) ∧ ∃ K3 I3 : Int, (K3 = 2 ∨ K3 = 3) ∧ (∀ w : World, Calls Tryd.prog 40 #[.int .i64 4, .agg #[.int .i64 (recK R1 k1 i1 k2 i2), .int .i64 (recI R1 k1 i1 k2 i2), .string noText], .agg #[.int .i64 k2, .int .i64 i2, .string noText]] w (ResPost K3 I3 0 w)) ∧ (∀ w : World, Calls Tryd.prog 42 #[.int .i64 7, .agg #[.int .i64 K3, .int .i64 I3, .string noText], .agg #[.int .i64 k1, .int .i64 i1, .string noText]] w (ResPost 1 1 0 w))) ∨ recE R1 k1 i1 k2 i2 = 4 := by
    cases hB : recB R1 k1 i1 k2 i2
    · right; unfold recE; rw [hB]; rfl
    · left
      unfold recE recK recI
      rw [hB]
      exact ⟨rfl, backs k1 i1 k2 i2 hk1 hk2 b1 b2 R1 hR1 hB⟩
  have mkA := fun hD => sums_A k1 i1 k2 i2 _ _ _ _ _ _ w (Lib.hid hk1) (Lib.hid hk2) (Lib.hid C1) (Lib.hid C2) (Lib.hid C3) (Lib.hid C4) (Lib.hid hE1) (Lib.hid hE2) hD
  have mkB := fun hD => sums_B k1 i1 k2 i2 _ _ _ _ _ _ w (Lib.hid hk1) (Lib.hid hk2) (Lib.hid C1) (Lib.hid C2) (Lib.hid C3) (Lib.hid C4) (Lib.hid hE1) (Lib.hid hE2) hD
  rcases hk1 with rfl | rfl
  case inr => exact mkA (Lib.hid (.inl rfl))
  rcases hk2 with rfl | rfl
  case inr => exact mkA (Lib.hid (.inr (.inl rfl)))
  rcases divs i1 i2 b1 b2 with ⟨hc, h⟩ | ⟨V, hc, h0, rfl, hV⟩
  · refine mkA (Lib.hid (.inr (.inr ⟨rfl, rfl, hc, ?_⟩)))
    rcases h with h | ⟨h, h'⟩
    · exact .inl h
    · exact .inr ⟨h, by simp [h']⟩
  · obtain ⟨R, q1, q2, hR⟩ := rests i1 i2 b1 b2 h0
    exact mkB (Lib.hid ⟨rfl, rfl, _, _, R, hc, q1, q2, h0, rest_cases i1 i2 b1 b2 h0 R hR⟩)

end Go.Proofs.YtkobjlmnbfkgaaaDoor
