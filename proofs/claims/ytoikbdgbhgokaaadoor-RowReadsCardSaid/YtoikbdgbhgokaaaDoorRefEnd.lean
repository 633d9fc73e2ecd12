/-
  The contract of the reference's end: a text ahead of its end from a place on, and the place behind; it makes memory of its own alone.
-/
import Derived.Test.YtoikbdgbhgokaaaDoorCutVal
namespace Go.Proofs.YtoikbdgbhgokaaaDoor
open Go.RowKit

/-- end answers c, of a string of n bytes. -/
def EndPost (n : Nat) (c : Option (List UInt8 × List UInt8)) (w : World) (e : Ending) (w' : World) : Prop :=
  Below w.heap.size w w' ∧ match c with
  | some p => p.2.length ≤ n ∧ e = .returned (.tuple #[.int .i64 ((n : Int) - p.2.length), .string ⟨p.1.toArray⟩])
  | none => ∃ b, e = .returned (.tuple #[.int .i64 (-1), .string b])

def restU (b l : List UInt8) : Option (List UInt8 × List UInt8) := (unesc l).map fun p => (b ++ p.1, p.2)

theorem restU_nil (l : List UInt8) : restU [] l = unesc l := by
  unfold restU
  cases unesc l <;> simp
theorem restU_short (b l : List UInt8) (h : l.length < 2) : restU b l = none := by
  unfold restU
  match l, h with
  | [], _ => rfl
  | [_], _ => rfl
theorem restU_byte (b : List UInt8) (x : UInt8) (t : List UInt8) (hx : x ≠ 0) (h : 1 ≤ t.length) : restU b (x :: t) = restU (b ++ [x]) t := by
  unfold restU
  match t, h with
  | y :: t, _ =>
    rw [unesc, if_neg hx]
    cases unesc (y :: t) with
    | none => rfl
    | some p => simp
theorem restU_end (b t : List UInt8) : restU b (0 :: 0 :: t) = some (b, t) := by
  unfold restU
  rw [unesc, if_pos rfl, if_pos rfl]
  simp
theorem restU_zero (b t : List UInt8) : restU b (0 :: 1 :: t) = restU (b ++ [0]) t := by
  unfold restU
  rw [unesc, if_pos rfl, if_neg (by decide), if_pos rfl]
  cases unesc t with
  | none => rfl
  | some p => simp
theorem restU_bad (b : List UInt8) (y : UInt8) (t : List UInt8) (h0 : y ≠ 0) (h1 : y ≠ 1) : restU b (0 :: y :: t) = none := by
  unfold restU
  rw [unesc, if_pos rfl, if_neg h0, if_neg h1]
  rfl

set_option maxRecDepth 100000 in
set_option maxHeartbeats 4000000 in
theorem refEnd_any (s : ByteArray) (at0 : Nat) (w : World) (hs : s.size ≤ 140737488351232) (hat : at0 ≤ s.size) :
    Calls Tryd.prog 52 #[.string s, .int .i64 at0] w (EndPost s.size (unesc (s.data.toList.drop at0)) w) := by
  go_enter Tryd.func52, Tryd.ntmps52
  go_wp2
  go_loopw [1, 6] (fun i u wr => ∃ (k : Nat) (b : List UInt8), k ≤ s.size ∧ i = .int .i64 k ∧ OwnB wr w.heap.size u b ∧ b.length ≤ k ∧ Below w.heap.size w wr ∧ Hid (restU b (s.data.toList.drop k) = unesc (s.data.toList.drop at0))) (fun i _ _ => s.size - (intOf i).toNat)
  case atStart => exact ⟨at0, [], hat, rfl, OwnB.lit w w.heap.size [] _ rfl (by omega) (by simp), by simp, (Below.refl _ _).alloc (Nat.le_refl _) _, by unfold Hid; rw [restU_nil]⟩
  case round =>
    obtain ⟨k, b, hk, rfl, ho, hbl, hb, HR⟩ := hrel
    have hz := hb.size
    by_cases hlt : k + 1 < s.size
    · have HD := Lib.hid (drop_two s k hlt)
      have hlt2 : (k : Int) + 1 < s.size := by omega
      have hlk : k < s.size := by omega
      by_cases h0 : s[k] = 0
      · have h0b : ((s[k].toNat : Int) == 0) = true := by rw [h0]; rfl
        have h0c : ((s[k].toNat : Int) != 0) = false := by rw [h0]; rfl
        by_cases h1 : s[k + 1] = 0
        · have e0 : ((s[k + 1].toNat : Int) == 0) = true := by rw [h1]; rfl
          have HE : Hid (unesc (s.data.toList.drop at0) = some (b, s.data.toList.drop (k + 2))) := by
            rw [← HR.out, HD.out, h0, h1, restU_end]; rfl
          have hcv : ∀ n, (convert 41 9 u6).run Tryd.prog (wr.drewN n) = .ok (.string ⟨b.toArray⟩) (wr.drewN n) := fun n => run_string (wr.drewN n) w.heap.size _ _ ho
          have hk2 : (k : Int) + 2 ≤ s.size := by omega
          clear h0 h1 HR HD
          go_wp2
          go_quiet (fail)
          go_wp2
          go_ret2
          refine ⟨below_drewNv hb _, ?_⟩
          rw [HE.out]
          have hl : (s.data.toList.drop (k + 2)).length = s.size - (k + 2) := by rw [List.length_drop, toL_len]
          refine ⟨by simp only [hl]; omega, ?_⟩
          simp only [hl]
          rw [show ((s.size : Int) - ((s.size - (k + 2) : Nat) : Int)) = (k : Int) + 2 by omega]
          rfl
        · have e0 := byte_ne s[k + 1] 0 (by decide) h1
          by_cases h2 : s[k + 1] = 1
          · have e1 : ((s[k + 1].toNat : Int) == 1) = true := by rw [h2]; rfl
            have e2 : ((s[k + 1].toNat : Int) != 1) = false := by rw [h2]; rfl
            have HR2 : Hid (restU (b ++ [0]) (s.data.toList.drop (k + 2)) = unesc (s.data.toList.drop at0)) := by
              rw [← HR.out, HD.out, h0, h2, restU_zero]; rfl
            clear h0 h1 h2 HR HD
            go_wp2_with (at_builtin; refine wpList_append_bytes _ rfl _ _ rfl w.heap.size _ _ rfl (ho.alloc _) ⟨wr.heap.size, 0, none⟩ [0] 1 1 rfl rfl (news_one wr _ _ rfl _ rfl) (by omega) (by simp <;> omega) ?_)
            intro v1 w1 ho1 hg
            have hb1 := bel_app hb ho (by omega) hg
            clear hg ho
            go_wp2
            go_roundw
            case rel => exact ⟨k + 2, b ++ [0], by omega, by go_num, ho1, by simp; omega, hb1, HR2⟩
            case measure => simp [intOf]; omega
          · have e1 := byte_ne s[k + 1] 1 (by decide) h2
            have e2 : ((s[k + 1].toNat : Int) != 1) = true := by simpa using e1
            have HE : Hid (unesc (s.data.toList.drop at0) = none) := by
              rw [← HR.out, HD.out, h0, restU_bad _ _ _ h1 h2]; rfl
            clear h0 h1 h2 HR HD
            go_wp2
            go_ret2
            exact ⟨hb, by rw [HE.out]; exact ⟨_, rfl⟩⟩
      · have h0b := byte_ne s[k] 0 (by decide) h0
        have h0c : ((s[k].toNat : Int) != 0) = true := by simpa using h0b
        have HR2 : Hid (restU (b ++ [s[k]]) (s.data.toList.drop (k + 1)) = unesc (s.data.toList.drop at0)) := by
          rw [← HR.out, HD.out, restU_byte _ _ _ h0 (by simp)]
          congr 1
          rw [List.drop_eq_getElem_cons (by rw [Array.length_toList]; exact hlt)]
          rfl
        clear h0 HR HD
        go_wp2_with (at_builtin; refine wpList_append_bytes _ rfl _ _ rfl w.heap.size _ _ rfl (ho.alloc _) ⟨wr.heap.size, 0, none⟩ [s[k]] 1 1 rfl rfl (news_one wr _ _ rfl _ rfl) (by omega) (by simp <;> omega) ?_)
        intro v1 w1 ho1 hg
        have hb1 := bel_app hb ho (by omega) hg
        clear hg ho
        go_wp2
        go_roundw
        case rel => exact ⟨k + 1, b ++ [s[k]], by omega, by go_num, ho1, by simp; omega, hb1, HR2⟩
        case measure => simp [intOf]; omega
    · have hlt2 : ¬ (k : Int) + 1 < s.size := by omega
      have HE : Hid (unesc (s.data.toList.drop at0) = none) := by
        rw [← HR.out, restU_short]
        · rfl
        · rw [List.length_drop, toL_len]
          omega
      clear HR
      go_wp2
      go_ret2
      exact ⟨hb, by rw [HE.out]; exact ⟨_, rfl⟩⟩

end Go.Proofs.YtoikbdgbhgokaaaDoor
