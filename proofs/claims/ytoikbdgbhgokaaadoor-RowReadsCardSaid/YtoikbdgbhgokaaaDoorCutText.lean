/-
  The contract of row's cutText: a text of at most 1000 bytes ahead of its end, and what stands behind; it makes memory of its own alone.
-/
import Derived.Test.YtoikbdgbhgokaaaDoorCutNum
import Derived.Test.YtoikbdgbhgokaaaDoorText
namespace Go.Proofs.YtoikbdgbhgokaaaDoor
open Go.RowKit

/-- A text that is cut, as bytes: none, if it has no end or is longer than 1000. -/
def cutT (l : List UInt8) : Option (List UInt8 × List UInt8) := (unesc l).bind fun p => if p.1.length ≤ 1000 then some p else none

/-- cutText answers c. -/
def TextPost (c : Option (List UInt8 × List UInt8)) (w : World) (e : Ending) (w' : World) : Prop :=
  Below w.heap.size w w' ∧ match c with
  | some p => e = .returned (.tuple #[.string ⟨p.1.toArray⟩, .string ⟨p.2.toArray⟩, .bool true])
  | none => ∃ a b, e = .returned (.tuple #[.string a, .string b, .bool false])

/-- With b read ahead of a place: what cutText comes to. -/
def restT (b l : List UInt8) : Option (List UInt8 × List UInt8) := (unesc l).bind fun p => if b.length + p.1.length ≤ 1000 then some (b ++ p.1, p.2) else none

theorem restT_nil (l : List UInt8) : restT [] l = cutT l := by
  unfold restT cutT
  simp
theorem restT_long (b l : List UInt8) (h : 1000 < b.length) : restT b l = none := by
  unfold restT
  cases unesc l with
  | none => rfl
  | some p => simp; omega
theorem restT_short (b l : List UInt8) (h : l.length < 2) : restT b l = none := by
  unfold restT
  match l, h with
  | [], _ => rfl
  | [_], _ => rfl
theorem restT_byte (b : List UInt8) (x : UInt8) (t : List UInt8) (hx : x ≠ 0) (h : 1 ≤ t.length) : restT b (x :: t) = restT (b ++ [x]) t := by
  unfold restT
  match t, h with
  | y :: t, _ =>
    rw [unesc, if_neg hx]
    cases unesc (y :: t) with
    | none => rfl
    | some p => simp; congr 1; apply propext; constructor <;> intro h <;> omega
theorem restT_end (b t : List UInt8) (h : b.length ≤ 1000) : restT b (0 :: 0 :: t) = some (b, t) := by
  unfold restT
  rw [unesc, if_pos rfl, if_pos rfl]
  simp [h]
theorem restT_zero (b t : List UInt8) : restT b (0 :: 1 :: t) = restT (b ++ [0]) t := by
  unfold restT
  rw [unesc, if_pos rfl, if_neg (by decide), if_pos rfl]
  cases unesc t with
  | none => rfl
  | some p => simp; congr 1; apply propext; constructor <;> intro h <;> omega
theorem restT_bad (b : List UInt8) (y : UInt8) (t : List UInt8) (h0 : y ≠ 0) (h1 : y ≠ 1) : restT b (0 :: y :: t) = none := by
  unfold restT
  rw [unesc, if_pos rfl, if_neg h0, if_neg h1]
  rfl

theorem drop_two (s : ByteArray) (k : Nat) (h : k + 1 < s.size) : s.data.toList.drop k = s[k] :: s[k + 1] :: s.data.toList.drop (k + 2) := by
  rw [List.drop_eq_getElem_cons (by rw [Array.length_toList]; show k < s.size; omega), List.drop_eq_getElem_cons (by rw [Array.length_toList]; show k + 1 < s.size; omega)]
  rfl

theorem byte_ne (x : UInt8) (n : Nat) (hn : n < 256) (h : x ≠ UInt8.ofNat n) : ((x.toNat : Int) == (n : Int)) = false := by
  rw [beq_eq_false_iff_ne]
  intro e
  apply h
  apply UInt8.toNat_inj.mp
  rw [UInt8.toNat_ofNat']
  omega

theorem OwnB.shape {w : World} {base : Nat} {v : Value} {l : List UInt8} (h : OwnB w base v l) : ∃ A c, v = .slice A l.length c := by
  rcases h.2 with ⟨rfl, h0⟩ | ⟨g, cap, cur, rfl, _⟩
  · exact ⟨none, 0, by rw [h0]⟩
  · exact ⟨_, _, rfl⟩

set_option maxRecDepth 100000 in
set_option maxHeartbeats 4000000 in
theorem cutText_any (s : ByteArray) (w : World) (hs : s.size ≤ 140737488355328) :
    Calls Tryd.prog 51 #[.string s] w (TextPost (cutT s.data.toList) w) := by
  go_enter Tryd.func51, Tryd.ntmps51
  go_wp2
  go_loopw [5, 6] (fun u i wr => ∃ (k : Nat) (b : List UInt8), k ≤ s.size ∧ i = .int .i64 k ∧ OwnB wr w.heap.size u b ∧ b.length ≤ 1001 ∧ Below w.heap.size w wr ∧ Hid (restT b (s.data.toList.drop k) = cutT s.data.toList)) (fun _ i _ => s.size - (intOf i).toNat)
  case atStart => exact ⟨0, [], by omega, rfl, OwnB.nil w _, by simp, Below.refl _ _, by unfold Hid; rw [List.drop_zero, restT_nil]⟩
  case round =>
    obtain ⟨k, b, hk, rfl, ho, hbl, hb, HR⟩ := hrel
    have hz := hb.size
    obtain ⟨A, c, rfl⟩ := ho.shape
    by_cases hlt : k + 1 < s.size
    · by_cases hlong : b.length ≤ 1000
      · have HD := Lib.hid (drop_two s k hlt)
        have hlt2 : (k : Int) + 1 < s.size := by omega
        have hlk : k < s.size := by omega
        have hbz : (b.length : Int) ≤ 1000 := by omega
        by_cases h0 : s[k] = 0
        · have h0b : ((s[k].toNat : Int) == 0) = true := by rw [h0]; rfl
          have h0c : ((s[k].toNat : Int) != 0) = false := by rw [h0]; rfl
          by_cases h1 : s[k + 1] = 0
          · have e0 : ((s[k + 1].toNat : Int) == 0) = true := by rw [h1]; rfl
            have HE : Hid (cutT s.data.toList = some (b, s.data.toList.drop (k + 2))) := by
              rw [← HR.out, HD.out, h0, h1, restT_end _ _ hlong]; rfl
            have hcv : ∀ n, (convert 41 9 (.slice A b.length c)).run Tryd.prog (wr.drewN n) = .ok (.string ⟨b.toArray⟩) (wr.drewN n) := fun n => run_string (wr.drewN n) w.heap.size _ _ ho
            have hk2 : (k : Int) + 2 ≤ s.size := by omega
            have hx : s.extract (k + 2) s.size = ⟨(s.data.toList.drop (k + 2)).toArray⟩ := by
              apply ba_eq
              rw [Lib.extract_to_end]
            have HX := Lib.hid hx
            clear h0 h1 HR HD hx
            go_wp2
            go_quiet (fail)
            go_wp2
            go_ret3
            refine ⟨below_drewNv hb _, ?_⟩
            rw [HE.out]
            simp only [HX.out]
            rfl
          · have e0 := byte_ne s[k + 1] 0 (by decide) h1
            by_cases h2 : s[k + 1] = 1
            · have e1 : ((s[k + 1].toNat : Int) == 1) = true := by rw [h2]; rfl
              have HR2 : Hid (restT (b ++ [0]) (s.data.toList.drop (k + 2)) = cutT s.data.toList) := by
                rw [← HR.out, HD.out, h0, h2, restT_zero]; rfl
              clear h0 h1 h2 HR HD
              go_wp2_with (at_builtin; refine wpList_append_bytes _ rfl _ _ rfl w.heap.size _ _ rfl (ho.alloc _) ⟨wr.heap.size, 0, none⟩ [0] 1 1 rfl rfl (news_one wr _ _ rfl _ rfl) (by omega) (by simp <;> omega) ?_)
              intro v1 w1 ho1 hg
              have hb1 := bel_app hb ho (by omega) hg
              clear hg ho
              go_wp2
              go_roundw
              case rel => exact ⟨k + 2, b ++ [0], by omega, by go_num, ho1, by simp; omega, hb1, HR2⟩
              case measure => simp [intOf]; omega
            · have e1 := byte_ne s[k + 1] 1 (by decide) h2
              have HE : Hid (cutT s.data.toList = none) := by
                rw [← HR.out, HD.out, h0, restT_bad _ _ _ h1 h2]; rfl
              clear h0 h1 h2 HR HD
              go_wp2
              go_ret3
              exact ⟨hb, by rw [HE.out]; exact ⟨_, _, rfl⟩⟩
        · have h0b := byte_ne s[k] 0 (by decide) h0
          have h0c : ((s[k].toNat : Int) != 0) = true := by simpa using h0b
          have HR2 : Hid (restT (b ++ [s[k]]) (s.data.toList.drop (k + 1)) = cutT s.data.toList) := by
            rw [← HR.out, HD.out, restT_byte _ _ _ h0 (by simp)]
            congr 1
            rw [List.drop_eq_getElem_cons (by rw [Array.length_toList]; exact hlt)]
            rfl
          clear h0 HR HD
          go_wp2_with (at_builtin; refine wpList_append_bytes _ rfl _ _ rfl w.heap.size _ _ rfl (ho.alloc _) ⟨wr.heap.size, 0, none⟩ [s[k]] 1 1 rfl rfl (news_one wr _ _ rfl _ rfl) (by omega) (by simp <;> omega) ?_)
          intro v1 w1 ho1 hg
          have hb1 := bel_app hb ho (by omega) hg
          clear hg ho
          go_wp2
          go_roundw
          case rel => exact ⟨k + 1, b ++ [s[k]], by omega, by go_num, ho1, by simp; omega, hb1, HR2⟩
          case measure => simp [intOf]; omega
      · have hlt2 : (k : Int) + 1 < s.size := by omega
        have hbz : ¬ (b.length : Int) ≤ 1000 := by omega
        have HE : Hid (cutT s.data.toList = none) := by rw [← HR.out, restT_long _ _ (by omega)]; rfl
        clear HR
        go_wp2
        go_ret3
        exact ⟨hb, by rw [HE.out]; exact ⟨_, _, rfl⟩⟩
    · have hlt2 : ¬ (k : Int) + 1 < s.size := by omega
      have HE : Hid (cutT s.data.toList = none) := by
        rw [← HR.out, restT_short]
        · rfl
        · rw [List.length_drop, Array.length_toList]
          show s.size - k < 2
          omega
      clear HR
      go_wp2
      go_ret3
      exact ⟨hb, by rw [HE.out]; exact ⟨_, _, rfl⟩⟩

end Go.Proofs.YtoikbdgbhgokaaaDoor
