/-
  Lex at every text; the law's alive.
-/
import Derived.Test.YtlmjijiepnefdaaGreatDoorSameG
namespace Go.Proofs.YtlmjijiepnefdaaGreatDoor
open Go.RowKit

def lexQ (s : ByteArray) : List (Tok × Nat) × Int × Nat := if s.size ≤ 4000 then lexR s.data.toList else ([], 2, 0)

set_option maxHeartbeats 4000000 in
set_option maxRecDepth 100000 in
theorem lex_big (s : ByteArray) (w : World) (hs : ¬ s.size ≤ 4000) :
    Calls Tryz.prog 7 #[.string s] w (LexPost ([], 2, 0) w) := by
  have h1 : 4000 < (s.size : Int) := by omega
  go_enter Tryz.func7, Tryz.ntmps7
  go_wp2_with fail
  refine bodyPost_ret (v := .tuple #[.slice none 0 0, .int .i64 2, .int .i64 0]) (by simp [results, Tryz.results7, go_sem]) rfl ⟨⟨_, rfl, by simp⟩, Below.refl _ _⟩

theorem lex_all (s : ByteArray) (w : World) (hV : LexV w) : Calls Tryz.prog 7 #[.string s] w (LexPost (lexQ s) w) := by
  unfold lexQ
  by_cases h : s.size ≤ 4000
  · rw [if_pos h]; exact lex_any s w h hV
  · rw [if_neg h]; exact lex_big s w h

set_option maxHeartbeats 4000000 in
set_option maxRecDepth 100000 in
theorem alive_any (w : World) (hV : LexV w) : Calls Tryz.prog 14 #[] w (TruePost w) := by
  have HQ : Hid ((lexR (⟨#[97]⟩ : ByteArray).data.toList).2.1 = 0 ∧ 0 < (lexR (⟨#[97]⟩ : ByteArray).data.toList).1.length) := lexR_a
  go_enter Tryz.func14, Tryz.ntmps14
  go_wp2_with fail
  refine (lex_any ⟨#[97]⟩ _ (by decide) hV).mono ?_
  rintro e w1 ⟨⟨v, rfl, ho⟩, b1⟩
  generalize lexR (⟨#[97]⟩ : ByteArray).data.toList = R at *
  obtain ⟨L, er, pl⟩ := R
  obtain ⟨h1, h2⟩ := HQ.out
  obtain rfl : er = 0 := h1
  rw [if_pos rfl] at ho
  obtain ⟨va, cap, rfl⟩ := ho.slice
  have h2i : 0 < (L.length : Int) := by simp only [] at h2; omega
  have h2n : 0 < L.length := h2
  clear HQ h2 ho
  go_wp2_with fail
  refine bodyPost_ret (v := .bool true) (by simp [results, Tryz.results14, go_sem]) rfl ⟨rfl, b1⟩


end Go.Proofs.YtlmjijiepnefdaaGreatDoor
