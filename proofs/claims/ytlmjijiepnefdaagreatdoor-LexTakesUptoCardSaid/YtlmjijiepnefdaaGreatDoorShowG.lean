/-
  The contract of the reference's Show of a token.
-/
import Derived.Test.YtlmjijiepnefdaaGreatDoorLexAgP
import Derived.Test.YtlmjijiepnefdaaGreatDoorRefPrintB
import Derived.Test.YtlmjijiepnefdaaGreatDoorRefPrintN
namespace Go.Proofs.YtlmjijiepnefdaaGreatDoor
open Go.RowKit

theorem rprint_any (k i : Int) (s : ByteArray) (w : World) (hi : -9223372036854775808 ≤ i ∧ i ≤ 9223372036854775807) (hP : Pow10 w) (hr : rightD ⟨k, i, s⟩ = true) :
    Calls Tryz.prog 16 #[.agg #[.int .i64 k, .int .i64 i, .string s]] w (StrPost (litL k i s.data.toList) w) := by
  have HR : Hid (∀ w' : World, Calls Tryz.prog 15 #[.agg #[.int .i64 k, .int .i64 i, .string s]] w' (RightPost (rightD ⟨k, i, s⟩) w')) := fun w' => refRight_any k i s w'
  rw [hr] at HR
  unfold rightD at hr
  simp only [] at hr
  unfold litL
  by_cases h0 : k = 0
  · subst h0; exact rprint_null i s w HR
  by_cases h1 : k = 1
  · subst h1
    have hb : i = 0 ∨ i = 1 := by simp at hr; exact hr.1
    rcases hb with rfl | rfl
    · exact rprint_false s w HR
    · exact rprint_true s w HR
  by_cases h2 : k = 2
  · subst h2; exact rprint_int i s w hi (Lib.hid hP) HR
  by_cases h3 : k = 3
  · subst h3; exact rprint_dec i s w hi (Lib.hid hP) HR
  by_cases h4 : k = 4
  · subst h4
    exact rprint_text i s w (by simp at hr; exact hr.2.1) HR
  by_cases h5 : k = 5
  · subst h5
    exact rprint_bytes i s w (by simp at hr; exact hr.2) HR
  · simp [h0, h1, h2, h3, h4, h5] at hr

theorem show_plain (t : Tok) (p : Int) (w : World) (h : ¬ t.k = 3) : Calls Tryz.prog 13 #[.agg (cellsT t p)] w (StrPost t.s w) := by
  have hb : (t.k != 3) = true := by simpa using h
  unfold cellsT
  go_enter Tryz.func13, Tryz.ntmps13
  go_wp2
  go_ret
  exact ⟨rfl, (Below.refl _ _).alloc (Nat.le_refl _) _⟩

theorem show_lit (dk di : Int) (ds : List UInt8) (p : Int) (w : World) (hd : ¬ di = -9223372036854775808) (l : List UInt8) (HC : Hid (∀ w' : World, Below w.heap.size w w' → Calls Tryz.prog 16 #[.agg #[.int .i64 dk, .int .i64 di, .string ⟨ds.toArray⟩]] w' (StrPost l w'))) :
    Calls Tryz.prog 13 #[.agg (cellsT ⟨3, [], dk, di, ds⟩ p)] w (StrPost l w) := by
  have hb : (di == -9223372036854775808) = false := by simpa using hd
  unfold cellsT
  clear hd
  have b0 : Below w.heap.size w (w.alloc (.cells (cellsT ⟨3, [], dk, di, ds⟩ p) 33)) := (Below.refl _ _).alloc (Nat.le_refl _) _
  go_enter Tryz.func13, Tryz.ntmps13
  go_wp2_with fail
  refine (HC.out _ b0).mono ?_
  rintro e w' ⟨rfl, b1⟩
  go_wp2
  go_ret
  exact ⟨rfl, b0.trans (b1.mono b0.size)⟩

theorem show_most2 (p : Int) (w : World) : Calls Tryz.prog 13 #[.agg (cellsT ⟨3, [], 2, -9223372036854775808, []⟩ p)] w (StrPost [57, 50, 50, 51, 51, 55, 50, 48, 51, 54, 56, 53, 52, 55, 55, 53, 56, 48, 56] w) := by
  unfold cellsT
  go_enter Tryz.func13, Tryz.ntmps13
  go_wp2
  go_ret
  exact ⟨rfl, (Below.refl _ _).alloc (Nat.le_refl _) _⟩
theorem show_most3 (p : Int) (w : World) : Calls Tryz.prog 13 #[.agg (cellsT ⟨3, [], 3, -9223372036854775808, []⟩ p)] w (StrPost [57, 50, 50, 51, 51, 55, 50, 48, 51, 54, 56, 53, 52, 55, 55, 46, 53, 56, 48, 56] w) := by
  unfold cellsT
  go_enter Tryz.func13, Tryz.ntmps13
  go_wp2
  go_ret
  exact ⟨rfl, (Below.refl _ _).alloc (Nat.le_refl _) _⟩

theorem show_any (t : Tok) (p : Int) (w : World) (hT : TokOK t ∨ t = Tok.zero) (hP : Pow10 w) : Calls Tryz.prog 13 #[.agg (cellsT t p)] w (StrPost (showT t) w) := by
  rcases hT with hT | rfl
  · cases hT with
    | name c s hc ha hl hlow hw => exact show_plain _ p w (by simp)
    | word s h => exact show_plain _ p w (by simp)
    | sym s h => exact show_plain _ p w (by simp)
    | int v h =>
      by_cases he : v = 9223372036854775808
      · subst he
        exact show_most2 p w
      · have hv : numV v = v := by unfold numV; rw [if_neg he]
        have hv2 : ¬ numV v = -9223372036854775808 := by rw [hv]; omega
        have e : showT ⟨3, [], 2, numV v, []⟩ = litL 2 (numV v) [] := by unfold showT; rw [if_neg (by simp), if_neg (fun h => hv2 h.1), if_neg (fun h => hv2 h.1)]
        rw [e]
        exact show_lit 2 (numV v) [] p w (by rw [hv]; omega) _ (Lib.hid fun w' hb => rprint_any 2 (numV v) ⟨#[]⟩ w' (by rw [hv]; omega) (hP.below hb) (by unfold rightD; simp; rfl))
    | dec v h =>
      by_cases he : v = 9223372036854775808
      · subst he
        exact show_most3 p w
      · have hv : numV v = v := by unfold numV; rw [if_neg he]
        have hv2 : ¬ numV v = -9223372036854775808 := by rw [hv]; omega
        have e : showT ⟨3, [], 3, numV v, []⟩ = litL 3 (numV v) [] := by unfold showT; rw [if_neg (by simp), if_neg (fun h => hv2 h.1), if_neg (fun h => hv2 h.1)]
        rw [e]
        exact show_lit 3 (numV v) [] p w (by rw [hv]; omega) _ (Lib.hid fun w' hb => rprint_any 3 (numV v) ⟨#[]⟩ w' (by rw [hv]; omega) (hP.below hb) (by unfold rightD; simp; rfl))
    | text v h hl => exact show_lit 4 0 v p w (by simp) _ (Lib.hid fun w' hb => rprint_any 4 0 ⟨v.toArray⟩ w' (by simp) (hP.below hb) (by unfold rightD; simp [ByteArray.size, h, hl]))
    | bytes v hl => exact show_lit 5 0 v p w (by simp) _ (Lib.hid fun w' hb => rprint_any 5 0 ⟨v.toArray⟩ w' (by simp) (hP.below hb) (by unfold rightD; simp [ByteArray.size, hl]))
  · exact show_plain _ p w (by simp [Tok.zero])

end Go.Proofs.YtlmjijiepnefdaaGreatDoor
