/-
  The contract of lex's Word.
-/
import Derived.Test.YtlmjijiepnefdaaGreatDoorLexName
namespace Go.Proofs.YtlmjijiepnefdaaGreatDoor
open Go.RowKit Go.Maps Go.WideMaps

set_option maxHeartbeats 4000000 in
set_option maxRecDepth 100000 in
theorem lexWord_any (s : ByteArray) (w : World) (hs : s.size ≤ maxLen) (hS : Spaces w) : Calls Tryz.prog 10 #[.string s] w fun e w' => e = .returned (.bool (isWord s.data.toList)) ∧ Below w.heap.size w w' := by
  have hkey : keyOf Tryz.prog 9 (.string s) = some (.string s.data.toList) := keyOf_string_mk (P := Tryz.prog) Tryz.underlying9 (s := s) hs
  have hhas := has_wset s.data.toList
  obtain ⟨b, hb⟩ : ∃ b, isWord s.data.toList = b := ⟨_, rfl⟩
  rw [hb] at hhas ⊢
  clear hb
  go_enter Tryz.func10, Tryz.ntmps10
  go_wp2_with fail
  refine (words_any _ hS).mono ?_
  rintro e w1 ⟨rfl, hK, b1⟩
  have hown := hK
  unfold KnownAt at hown
  have zero50 : (zeroValue 50).run Tryz.prog w1 = .ok (.agg #[]) w1 := by kernel_rfl
  cases b
  all_goals
    go_wp2_with (first
      | (at_lookup; refine wpList_lookup_own_unit _ rfl _ _ 41 rfl 9 50 wlaw Tryz.underlying41 zero50 w.heap.size 50 _ rfl hown _ _ rfl hkey ?_; rw [hhas])
      | fail)
    go_ret
    exact ⟨rfl, b1.alloc b1.size _⟩

end Go.Proofs.YtlmjijiepnefdaaGreatDoor
