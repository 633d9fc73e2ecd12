/-
  The contract of the reference's Runes, with how many there are; and of its runeAt.
-/
import Derived.Test.YtlmjijiepnefdaaGreatDoorTkS
import Derived.Test.YtlmjijiepnefdaaGreatDoorRunes
import Derived.Test.YtlmjijiepnefdaaGreatDoorGen
import Derived.Deep.RegionHeldLaw
namespace Go.Proofs.YtlmjijiepnefdaaGreatDoor
open Go.RowKit

/-- How many runes. -/
def cntL (l : List UInt8) : Nat := if _h : l = [] then 0 else 1 + cntL (l.drop (Lib.decodeL l).2)
termination_by l.length
decreasing_by
  have h1 := Lib.decodeL_width l
  have h2 : 0 < l.length := List.length_pos_iff.mpr _h
  rw [List.length_drop]; omega
theorem cntL_nil : cntL [] = 0 := by rw [cntL, dif_pos rfl]
theorem cntL_step {l : List UInt8} (h : l ≠ []) : cntL l = 1 + cntL (l.drop (Lib.decodeL l).2) := by rw [cntL, dif_neg h]
theorem cnt_at (s : ByteArray) (pos : Nat) (h : pos < s.size) : cntL (s.data.toList.drop pos) = 1 + cntL (s.data.toList.drop (pos + (Utf8.decode s pos).2)) := by
  rw [cntL_step (ne_nil s pos h), Lib.decodeL_drop, List.drop_drop]
/-- Runes tells how many there are, if it is UTF-8; and whether it is. -/
def RunesC (l : List UInt8) (w : World) (e : Ending) (w' : World) : Prop := ∃ n : Int, e = .returned (.tuple #[.int .i64 n, .bool (Lib.validD l)]) ∧ (Lib.validD l = true → n = cntL l) ∧ Below w.heap.size w w'

set_option maxHeartbeats 4000000 in
set_option maxRecDepth 100000 in
theorem runesC_any (s : ByteArray) (w : World) (hs : s.size ≤ 1000) :
    Calls Tryz.prog 24 #[.string s] w (RunesC s.data.toList w) := by
  go_enter Tryz.func24, Tryz.ntmps24
  go_wp2
  go_loopw [4] (fun n wr => ∃ (pos : Nat) (c : Int), wr = w.iter s pos ∧ n = .int .i64 c ∧ 0 ≤ c ∧ c ≤ pos ∧ pos ≤ s.size ∧ Lib.validD (s.data.toList.drop pos) = Lib.validD s.data.toList ∧ Hid (c + (cntL (s.data.toList.drop pos) : Int) = (cntL s.data.toList : Int))) (fun _ wr => s.size - wr.iterPos w.heap.size)
  case atStart => exact ⟨0, 0, rfl, rfl, by omega, by omega, by omega, by rw [List.drop_zero], by unfold Hid; rw [List.drop_zero]; omega⟩
  case round =>
    obtain ⟨pos, c, rfl, rfl, hc0, hc1, hpos, hv, HCn⟩ := hrel
    have HV := Lib.hid hv
    clear hv
    by_cases hp : pos < s.size
    · have hnx : ∀ ty, (Instr.next (.pointer (some ⟨w.heap.size, 0, none⟩)) true ty).run Tryz.prog (w.iter s pos) = _ := fun ty => run_next_any w s pos ty hp
      have HE := Lib.hid (rune_err s pos hp)
      have HA := Lib.hid (validD_at s pos hp)
      have HW := Lib.hid (width_ok s pos hp)
      have HCs := Lib.hid (cnt_at s pos hp)
      revert hnx HE HA HW HCs
      generalize (Utf8.decode s pos).1 = r
      generalize (Utf8.decode s pos).2 = d
      intro hnx HE HA HW HCs
      by_cases hr : r = 65533
      · rcases HE.out hr with ⟨hd, h3 | ⟨h3, hx⟩⟩ | ⟨hd, h3, hx⟩
        · have hf : Lib.validD s.data.toList = false := by rw [← HV.out, HA.out, if_pos ⟨hr, hd⟩]
          have HF := Lib.hid hf
          have h3z : (s.size : Int) < pos + 3 := by omega
          subst hr
          clear hf hd HE HA HV
          go_wp2
          go_ret2
          exact ⟨_, by rw [HF.out]; rfl, by rw [HF.out]; intro h; (first | exact Bool.noConfusion h | (have h1 := HCn.out; have h2 := HCe.out; omega)), (Below.refl _ _).alloc (Nat.le_refl _) _⟩
        · have hf : Lib.validD s.data.toList = false := by rw [← HV.out, HA.out, if_pos ⟨hr, hd⟩]
          have HF := Lib.hid hf
          have h3z : ¬ ((s.size : Int) < pos + 3) := by omega
          have hxt : (!(s.extract pos (pos + 3)).toList == [239, 191, 189]) = true := by
            simp only [Bool.not_eq_true', beq_eq_false_iff_ne]
            intro e
            rw [ByteArray.toList_eq] at e
            exact hx (ba_eq e)
          subst hr
          clear hf hd HE HA HV hx
          go_wp2
          go_ret2
          exact ⟨_, by rw [HF.out]; rfl, by rw [HF.out]; intro h; (first | exact Bool.noConfusion h | (have h1 := HCn.out; have h2 := HCe.out; omega)), (Below.refl _ _).alloc (Nat.le_refl _) _⟩
        · have h3z : ¬ ((s.size : Int) < pos + 3) := by omega
          have hxt : (!(s.extract pos (pos + 3)).toList == [239, 191, 189]) = false := by
            rw [hx, ByteArray.toList_eq]; rfl
          have HD := Lib.hid hd
          subst hr
          clear HE hx hd
          go_wp2
          go_roundw
          case rel =>
            have h1 := HW.out
            refine ⟨pos + d, c + 1, rfl, rfl, by omega, by omega, by omega, ?_, by have h2 := HCn.out; have h3 := HCs.out; unfold Hid; omega⟩
            rw [← HV.out, HA.out, if_neg (fun h => by have := HD.out; omega)]
          case measure => have h1 := HW.out; simp; omega
      · have hrb : ((r : Int) == 65533) = false := by simp; omega
        have HN := Lib.hid hr
        clear hr
        go_wp2
        go_roundw
        case rel =>
          have h1 := HW.out
          refine ⟨pos + d, c + 1, rfl, rfl, by omega, by omega, by omega, ?_, by have h2 := HCn.out; have h3 := HCs.out; unfold Hid; omega⟩
          rw [← HV.out, HA.out, if_neg (fun h => HN.out h.1)]
        case measure => have h1 := HW.out; simp; omega
    · obtain rfl : pos = s.size := by omega
      have hnx : ∀ ty, (Instr.next (.pointer (some ⟨w.heap.size, 0, none⟩)) true ty).run Tryz.prog (w.iter s s.size) = _ := fun ty => run_next_end w s s.size ty hp
      have hf : Lib.validD s.data.toList = true := by rw [← HV.out, List.drop_eq_nil_of_le (by rw [Array.length_toList]; exact Nat.le_refl _)]; rfl
      have HF := Lib.hid hf
      have HCe : Hid (cntL (s.data.toList.drop s.size) = 0) := by unfold Hid; rw [List.drop_eq_nil_of_le (by rw [Array.length_toList]; exact Nat.le_refl _)]; exact cntL_nil
      clear hf
      go_wp2
      go_ret2
      exact ⟨_, by rw [HF.out]; rfl, by rw [HF.out]; intro h; (first | exact Bool.noConfusion h | (have h1 := HCn.out; have h2 := HCe.out; omega)), (Below.refl _ _).alloc (Nat.le_refl _) _⟩
/-! ### the rune at a place -/
/-- One rune, and no more. -/
theorem single_iff {p : List UInt8} : (Lib.validD p = true ∧ cntL p = 1) ↔ (p ≠ [] ∧ (Lib.decodeL p).2 = p.length ∧ ¬ ((Lib.decodeL p).1 = 65533 ∧ (Lib.decodeL p).2 = 1)) := by
  by_cases hp : p = []
  · subst hp
    rw [cntL_nil]
    exact ⟨fun h => absurd h.2 (by decide), fun h => absurd rfl h.1⟩
  · have hw := Lib.decodeL_width p
    have hle := Lib.decodeL_le p hp
    have hz : ∀ l : List UInt8, cntL l = 0 ↔ l = [] := by
      intro l
      constructor
      · intro h
        by_cases hl : l = []
        · exact hl
        · rw [cntL_step hl] at h; omega
      · intro h; rw [h, cntL_nil]
    constructor
    · rintro ⟨hv, hc⟩
      rw [Lib.validD_step p hp] at hv
      by_cases hb : (Lib.decodeL p).1 = 65533 ∧ (Lib.decodeL p).2 = 1
      · rw [if_pos hb] at hv; cases hv
      · rw [cntL_step hp] at hc
        have h0 := (hz _).1 (show cntL (p.drop (Lib.decodeL p).2) = 0 by omega)
        have := congrArg List.length h0
        rw [List.length_drop, List.length_nil] at this
        exact ⟨hp, by omega, hb⟩
    · rintro ⟨_, hl, hb⟩
      have hd : p.drop (Lib.decodeL p).2 = [] := by rw [hl, List.drop_length]
      refine ⟨?_, ?_⟩
      · rw [Lib.validD_step p hp, if_neg hb, hd]; rfl
      · rw [cntL_step hp, hd, cntL_nil]
/-- Of a text's beginnings one alone is a rune: its own. -/
theorem single_take {l : List UInt8} (hl : l ≠ []) (i : Nat) (h1 : 1 ≤ i) (hi : i ≤ l.length) :
    (Lib.validD (l.take i) = true ∧ cntL (l.take i) = 1) ↔ (i = (Lib.decodeL l).2 ∧ ¬ ((Lib.decodeL l).1 = 65533 ∧ (Lib.decodeL l).2 = 1)) := by
  rw [single_iff]
  have hlen : (l.take i).length = i := by rw [List.length_take]; omega
  have hle := Lib.decodeL_le l hl
  have hw := Lib.decodeL_width l
  constructor
  · rintro ⟨hne, h2, h3⟩
    have hloc := dec_local (l.take i) hne h3 (l.drop i)
    rw [h2, List.take_length, List.take_append_drop] at hloc
    rw [hlen] at h2
    rw [hloc]
    exact ⟨h2.symm, h3⟩
  · rintro ⟨rfl, h3⟩
    have hloc := dec_local l hl h3 []
    rw [List.append_nil] at hloc
    refine ⟨?_, by rw [hloc, hlen], by rw [hloc]; exact h3⟩
    intro e
    rw [e] at hlen
    simp at hlen; omega
theorem decodeL_le4 (l : List UInt8) : (Lib.decodeL l).2 ≤ 4 := by
  rw [Lib.decodeL_N]
  rcases Lib.decodeN_shape l.length (l.getD 0 0).toNat (l.getD 1 0).toNat (l.getD 2 0).toNat (l.getD 3 0).toNat with ⟨_, e⟩ | ⟨_, _, _, _, e⟩ | ⟨_, _, _, _, _, _, e⟩ | ⟨_, _, _, _, _, _, _, e⟩ | e <;> rw [e] <;> simp
/-- How many bytes the first rune has; 0: none is there. -/
def runeN (l : List UInt8) : Nat := if (Lib.decodeL l).1 = 65533 ∧ (Lib.decodeL l).2 = 1 then 0 else (Lib.decodeL l).2

set_option maxHeartbeats 4000000 in
set_option maxRecDepth 100000 in
theorem runeAt_any (s : ByteArray) (at0 : Nat) (w : World) (hs : s.size ≤ 4000) (ha : at0 < s.size) : Calls Tryz.prog 70 #[.string s, .int .i64 at0] w fun e w' => e = .returned (.int .i64 (runeN (s.data.toList.drop at0))) ∧ Below w.heap.size w w' := by
  have HRn : Hid (∀ i, 1 ≤ i → i ≤ 4 → at0 + i ≤ s.size → ∀ w' : World, Calls Tryz.prog 24 #[.string (s.extract at0 (at0 + i))] w' (RunesC ((s.data.toList.drop at0).take i) w')) := by
    intro i h1 h4 hi w'
    have hx := take_ext s at0 i
    have hsz : (s.extract at0 (at0 + i)).size ≤ 1000 := by rw [← size_list, hx, List.length_take]; omega
    have := runesC_any (s.extract at0 (at0 + i)) w' hsz
    rwa [hx] at this
  have hne : s.data.toList.drop at0 ≠ [] := by
    intro e
    have := congrArg List.length e
    rw [List.length_drop, size_list, List.length_nil] at this
    omega
  have hll : (s.data.toList.drop at0).length = s.size - at0 := by rw [List.length_drop, size_list]
  have HS : Hid (∀ i, 1 ≤ i → at0 + i ≤ s.size → ((Lib.validD ((s.data.toList.drop at0).take i) = true ∧ cntL ((s.data.toList.drop at0).take i) = 1) ↔ (i = (Lib.decodeL (s.data.toList.drop at0)).2 ∧ ¬ ((Lib.decodeL (s.data.toList.drop at0)).1 = 65533 ∧ (Lib.decodeL (s.data.toList.drop at0)).2 = 1)))) :=
    fun i h1 hi => single_take hne i h1 (by rw [hll]; omega)
  have hle := Lib.decodeL_le _ hne
  rw [hll] at hle
  have hw4 := decodeL_le4 (s.data.toList.drop at0)
  obtain ⟨N, hN⟩ : ∃ N, N = runeN (s.data.toList.drop at0) := ⟨_, rfl⟩
  have HN : Hid (N = if (Lib.decodeL (s.data.toList.drop at0)).1 = 65533 ∧ (Lib.decodeL (s.data.toList.drop at0)).2 = 1 then 0 else (Lib.decodeL (s.data.toList.drop at0)).2) := hN
  rw [← hN]
  clear hN hne hll
  generalize Lib.decodeL (s.data.toList.drop at0) = D at *
  have HLe := Lib.hid (And.intro hle hw4)
  clear hle hw4
  go_enter Tryz.func70, Tryz.ntmps70
  go_wp2_with fail
  go_loopw [5, 6] (fun v i wr => ∃ k m : Nat, i = .int .i64 k ∧ v = .int .i64 m ∧ 1 ≤ k ∧ k ≤ 5 ∧ Below w.heap.size w wr ∧ Hid (m = if ¬ (D.1 = 65533 ∧ D.2 = 1) ∧ D.2 < k then D.2 else 0) ∧ Hid (k ≤ s.size - at0 + 1)) (fun _ i _ => 5 - (intOf i).toNat)
  case atStart =>
    refine ⟨1, 0, rfl, rfl, by omega, by omega, Below.refl _ _, ?_, by unfold Hid; omega⟩
    unfold Hid
    by_cases h : ¬ (D.1 = 65533 ∧ D.2 = 1) ∧ D.2 < 1
    · rw [if_pos h]; omega
    · rw [if_neg h]
  case round =>
    obtain ⟨k, m, rfl, rfl, h1, h5, hb, HM, HKs⟩ := hrel
    by_cases h4 : k ≤ 4
    · by_cases hin : at0 + k ≤ s.size
      · have hini : (at0 : Int) + k ≤ (s.size : Int) := by omega
        have HC := Lib.hid (HRn.out k h1 h4 hin)
        have HSk := Lib.hid (HS.out k h1 hin)
        go_wp2_with fail
        refine (HC.out _).mono ?_
        rintro e w2 ⟨n', rfl, hn', b2⟩
        have hb2 := hb.trans (b2.mono hb.size)
        clear b2 HC hb
        by_cases hs1 : k = D.2 ∧ ¬ (D.1 = 65533 ∧ D.2 = 1)
        · obtain ⟨hv, hc⟩ := HSk.out.2 hs1
          have hn1 : n' = 1 := by rw [hn' hv, hc]; rfl
          have HM2 : Hid (k = if ¬ (D.1 = 65533 ∧ D.2 = 1) ∧ D.2 < k + 1 then D.2 else 0) := by
            unfold Hid; rw [if_pos ⟨hs1.2, by omega⟩]; exact hs1.1
          rw [hv]
          subst hn1
          clear hn' hv hc HSk hs1
          go_wp2_with fail
          go_roundw
          case rel => exact ⟨k + 1, k, by go_num, rfl, by omega, by omega, hb2, HM2, by unfold Hid; omega⟩
          case measure => simp [intOf]; omega
        · have HM2 : Hid (m = if ¬ (D.1 = 65533 ∧ D.2 = 1) ∧ D.2 < k + 1 then D.2 else 0) := by
            have hm := HM.out
            unfold Hid
            by_cases hq : ¬ (D.1 = 65533 ∧ D.2 = 1) ∧ D.2 < k + 1
            · have hne : D.2 ≠ k := fun e => hs1 ⟨e.symm, hq.1⟩
              rw [if_pos hq, hm, if_pos ⟨hq.1, by omega⟩]
            · rw [if_neg hq, hm, if_neg (fun h => hq ⟨h.1, by omega⟩)]
          cases hv : Lib.validD ((s.data.toList.drop at0).take k) with
          | false =>
            clear hn' hv HSk hs1
            go_wp2_with fail
            go_roundw
            case rel => exact ⟨k + 1, m, by go_num, rfl, by omega, by omega, hb2, HM2, by unfold Hid; omega⟩
            case measure => simp [intOf]; omega
          | true =>
            have hn1 : (n' == 1) = false := by
              rw [beq_eq_false_iff_ne]
              intro e
              refine hs1 (HSk.out.1 ⟨hv, ?_⟩)
              have := hn' hv
              omega
            clear hn' hv HSk hs1
            go_wp2_with fail
            go_roundw
            case rel => exact ⟨k + 1, m, by go_num, rfl, by omega, by omega, hb2, HM2, by unfold Hid; omega⟩
            case measure => simp [intOf]; omega
      · have hini : ¬ (at0 : Int) + k ≤ (s.size : Int) := by omega
        have HF : Hid (N = m) := by
          have h1 := HLe.out
          have hm := HM.out
          unfold Hid
          rw [HN.out, hm]
          by_cases hq : D.1 = 65533 ∧ D.2 = 1
          · rw [if_pos hq, if_neg (fun h => h.1 hq)]
          · rw [if_neg hq, if_pos ⟨hq, by omega⟩]
        go_wp2_with fail
        go_ret
        exact ⟨by rw [HF.out]; rfl, hb⟩
    · have h4i : ¬ (k : Int) ≤ 4 := by omega
      have HF : Hid (N = m) := by
        have h1 := HLe.out
        have hm := HM.out
        unfold Hid
        rw [HN.out, hm]
        by_cases hq : D.1 = 65533 ∧ D.2 = 1
        · rw [if_pos hq, if_neg (fun h => h.1 hq)]
        · rw [if_neg hq, if_pos ⟨hq, by omega⟩]
      go_wp2_with fail
      go_ret
      exact ⟨by rw [HF.out]; rfl, hb⟩

end Go.Proofs.YtlmjijiepnefdaaGreatDoor

/-
  The contract of the reference's text.
-/
namespace Go.Proofs.YtlmjijiepnefdaaGreatDoor
open Go.RowKit

/-- A text that is read to its end: its size and its value. -/
theorem text_end {l r t : List UInt8} (hq : l.drop 1 = quoteL t ++ 39 :: r) (ht : textS false (l.drop 1) = ((quoteL t).length + 1, 0)) (_hh : l ≠ []) : tsR l = ((quoteL t).length + 2, 0) ∧ txtV l = t := by
  have h1 : tsR l = ((quoteL t).length + 2, 0) := by
    unfold tsR
    rw [ht, if_neg (by simp)]
    show (1 + ((quoteL t).length + 1), (0 : Int)) = _
    congr 1; omega
  refine ⟨h1, ?_⟩
  unfold txtV
  rw [h1, hq]
  show Lib.replaceAll ((quoteL t ++ 39 :: r).take (quoteL t).length) [39, 39] [39] = t
  rw [take_app, replaceAll_unq]

theorem quoteL_ge (l : List UInt8) : l.length ≤ (quoteL l).length := by
  induction l with
  | nil => simp
  | cons c l ih => rw [quoteL, List.length_append, List.length_cons]; split <;> simp <;> omega

set_option maxHeartbeats 8000000 in
set_option maxRecDepth 100000 in
theorem refText_any (s : ByteArray) (at0 : Nat) (w : World) (hs : s.size ≤ 4000) (ha : at0 < s.size) : Calls Tryz.prog 44 #[.string s, .int .i64 at0] w (GotPost (txtR (s.data.toList.drop at0)) at0 w) := by
  have b0 := (Below.refl w.heap.size w).alloc (Nat.le_refl _) (.cells (wrongC 0 0) 48)
  have bX0 : Blk (w.alloc (.cells (wrongC 0 0) 48)) w.heap.size (wrongC 0 0) 48 := Blk.new _ _ _
  unfold wrongC at b0 bX0
  have HHd : Hid (s.data.toList.drop at0 ≠ []) := ne_nil s at0 ha
  have HD1 : Hid ((s.data.toList.drop at0).drop 1 = s.data.toList.drop (at0 + 1)) := List.drop_drop
  go_enter Tryz.func44, Tryz.ntmps44
  go_wp2_with fail
  generalize w.alloc (.cells #[.int .i64 0, .string ⟨#[]⟩, .int .i64 0, .int .i64 0, .string ⟨#[]⟩, .int .i64 0, .int .i64 0, .int .i64 0, .int .i64 0, .bool false] 48) = w1 at *
  go_loopw [5, 6] (fun v i wr => ∃ (j : Nat) (t : List UInt8), i = .int .i64 j ∧ v = .string ⟨t.toArray⟩ ∧ j ≤ s.size ∧ Below w.heap.size w wr ∧ Hid (Blk wr w.heap.size #[.int .i64 0, .string ⟨#[]⟩, .int .i64 0, .int .i64 0, .string ⟨#[]⟩, .int .i64 0, .int .i64 0, .int .i64 0, .int .i64 0, .bool false] 48) ∧
      Hid (j = at0 + 1 + (quoteL t).length) ∧ Hid ((s.data.toList.drop at0).drop 1 = quoteL t ++ s.data.toList.drop j) ∧ Hid (textS false ((s.data.toList.drop at0).drop 1) = shiftR (quoteL t).length (textS false (s.data.toList.drop j))) ∧ t.length ≤ 4000) (fun _ i _ => s.size - (intOf i).toNat)
  case atStart =>
    refine ⟨at0 + 1, [], rfl, rfl, ha, b0, bX0, rfl, ?_, ?_, by simp⟩
    · unfold Hid; rw [HD1.out]; rfl
    · unfold Hid; rw [HD1.out]; exact (shift_zero _).symm
  case round =>
    obtain ⟨j, t, rfl, rfl, hj, hb, HX, HTo, HQt, HSh, htl⟩ := hrel
    clear b0 bX0
    by_cases hlt : j < s.size
    · have HD := Lib.hid (drop_cons s j hlt)
      obtain ⟨x, hx⟩ : ∃ x : UInt8, s[j] = x := ⟨_, rfl⟩
      obtain ⟨c, hc⟩ : ∃ c : Nat, s[j].toNat = c := ⟨_, rfl⟩
      have hc1 : c < 256 := hc ▸ UInt8.toNat_lt _
      have HXc : Hid (x.toNat = c) := by unfold Hid; rw [← hx]; exact hc
      rw [hx] at HD
      clear hx
      have hRun : Hid (∀ w' : World, Calls Tryz.prog 70 #[.string s, .int .i64 j] w' fun e w'' => e = .returned (.int .i64 (runeN (s.data.toList.drop j))) ∧ Below w'.heap.size w' w'') := fun w' => runeAt_any s j w' hs hlt
      by_cases h39 : c = 39
      · have hx39 : x = 39 := UInt8.toNat_inj.1 (HXc.out.trans h39)
        subst hx39
        subst h39
        clear HXc
        have HQu : Hid ((s.data.toList.drop at0).drop 1 = quoteL t ++ 39 :: s.data.toList.drop (j + 1)) := by unfold Hid; rw [HQt.out, HD.out]
        by_cases hj1 : j + 1 < s.size
        · have HD2 := Lib.hid (drop_cons s (j + 1) hj1)
          have hj1i : (j : Int) + 1 < (s.size : Int) := by omega
          obtain ⟨y, hy⟩ : ∃ y : UInt8, s[j + 1] = y := ⟨_, rfl⟩
          obtain ⟨d, hd⟩ : ∃ d : Nat, s[j + 1].toNat = d := ⟨_, rfl⟩
          have hd1 : d < 256 := hd ▸ UInt8.toNat_lt _
          have HY : Hid (y.toNat = d) := by unfold Hid; rw [← hy]; exact hd
          rw [hy] at HD2
          clear hy
          by_cases hd39 : d = 39
          · have hy39 : y = 39 := UInt8.toNat_inj.1 (HY.out.trans hd39)
            subst hy39
            subst hd39
            clear HY
            have HRN : Hid (runeN (s.data.toList.drop j) = 1) := by unfold Hid runeN; rw [HD.out, decodeL_39]; rfl
            have HE : Hid ((s.data.toList.drop j).take 1 = [39]) := by unfold Hid; rw [HD.out]; rfl
            have hq2 : quoteL (t ++ [39]) = quoteL t ++ [39, 39] := by rw [quoteL_append]; rfl
            have HT2 : Hid (j + 2 = at0 + 1 + (quoteL (t ++ [39])).length) := by have := HTo.out; unfold Hid; rw [hq2, List.length_append]; simp only [List.length_cons, List.length_nil]; omega
            have HQ2 : Hid ((s.data.toList.drop at0).drop 1 = quoteL (t ++ [39]) ++ s.data.toList.drop (j + 2)) := by
              unfold Hid; rw [HQt.out, hq2, HD.out, HD2.out, List.append_assoc]; rfl
            have HS2 : Hid (textS false ((s.data.toList.drop at0).drop 1) = shiftR (quoteL (t ++ [39])).length (textS false (s.data.toList.drop (j + 2)))) := by
              unfold Hid
              rw [HSh.out, HD.out, HD2.out, textS_two, shift_shift, hq2, List.length_append]; rfl
            have HL2 : Hid (t.length + 1 ≤ 4000) := by
              have h1 := congrArg List.length HQ2.out
              have h2 : (t ++ [39]).length ≤ (quoteL (t ++ [39])).length := quoteL_ge _
              rw [List.length_drop, List.length_drop, List.length_append, size_list] at h1
              rw [List.length_append] at h2
              simp only [List.length_cons, List.length_nil] at h2
              unfold Hid; omega
            go_wp2_with fail
            refine (hRun.out _).mono ?_
            rintro e w2 ⟨rfl, b2⟩
            rw [HRN.out]
            have hb2 := hb.trans (b2.mono hb.size)
            have HX2 := Lib.hid (HX.out.below b2)
            clear b2 hb HX
            go_wp2_with fail
            go_roundw
            case rel =>
              refine ⟨j + 2, t ++ [39], by go_num, str_val _ _ ?_, by omega, hb2, HX2.out, HT2, HQ2, HS2, by rw [List.length_append]; exact HL2.out⟩
              simp [ByteArray.data_append, HE.out]
            case measure => simp [intOf]; omega
          · have hdb : ((d : Int) == 39) = false := by simp; omega
            have hdb2 : ((d : Int) != 39) = true := by simp; omega
            have HLs : Hid (textS false (s.data.toList.drop j) = (1, 0)) := by
              unfold Hid; rw [HD.out]
              refine textS_last (.inr ⟨ne_nil s (j + 1) hj1, ?_⟩)
              intro e
              obtain ⟨l', hl'⟩ := dec_39 (ne_nil s (j + 1) hj1) e
              rw [HD2.out] at hl'
              obtain ⟨rfl, _⟩ := List.cons.inj hl'
              exact hd39 (HY.out.symm.trans rfl)
            clear HY hd39
            have HT : Hid (tsR (s.data.toList.drop at0) = ((quoteL t).length + 2, 0) ∧ txtV (s.data.toList.drop at0) = t) := text_end HQu.out (HSh.out.trans (by rw [HLs.out]; rfl)) HHd.out
            by_cases h1000 : 1000 < t.length
            · have HQ := Lib.hid (got_bad (at0 := at0) (show txtR (s.data.toList.drop at0) = (Tok.zero, 0, 2) by unfold txtR; rw [HT.out.1, HT.out.2, if_pos rfl, if_pos h1000]) (by decide))
              have h1i : (1000 : Int) < (t.length : Int) := by omega
              clear h1000
              go_wp2_with fail
              refine (wrong_any _ _ _).mono ?_
              rintro e w3 ⟨rfl, b3⟩
              have hb3 := hb.trans (b3.mono hb.size)
              have bY := HX.out.below b3
              have y0 := bY.cell 0
              have y1 := bY.cell 1
              have y2 := bY.cell 2
              have y3 := bY.cell 3
              have y4 := bY.cell 4
              have y5 := bY.cell 5
              have y6 := bY.cell 6
              have y7 := bY.cell 7
              have y8 := bY.cell 8
              have y9 := bY.cell 9
              simp only [List.getElem?_toArray, List.getElem?_cons_zero, List.getElem?_cons_succ] at y0 y1 y2 y3 y4 y5 y6 y7 y8 y9
              have f0 := bY.frozen 0
              have f1 := bY.frozen 1
              have f2 := bY.frozen 2
              have f3 := bY.frozen 3
              have f4 := bY.frozen 4
              have f5 := bY.frozen 5
              have f6 := bY.frozen 6
              have f7 := bY.frozen 7
              have f8 := bY.frozen 8
              have f9 := bY.frozen 9
              clear bY b3
              unfold wrongC
              go_wp2_with fail
              unfold GotPost
              rw [HQ.out]
              refine bodyPost_ret ?_ rfl ⟨rfl, ?_⟩
              · simp [results, Tryz.results44, go_sem, wrongC, y0, y1, y2, y3, y4, y5, y6, y7, y8, y9]
              · exact (((((((((hb3.setCell (Nat.le_refl _) _).setCell (Nat.le_refl _) _).setCell (Nat.le_refl _) _).setCell (Nat.le_refl _) _).setCell (Nat.le_refl _) _).setCell (Nat.le_refl _) _).setCell (Nat.le_refl _) _).setCell (Nat.le_refl _) _).setCell (Nat.le_refl _) _).setCell (Nat.le_refl _) _
            · have HQ := Lib.hid (got_ok (at0 := at0) (show txtR (s.data.toList.drop at0) = (⟨3, [], 4, 0, t⟩, (quoteL t).length + 2, 0) by unfold txtR; rw [HT.out.1, HT.out.2, if_pos rfl, if_neg h1000]))
              have h1i : ¬ (1000 : Int) < (t.length : Int) := by omega
              have HJ : Hid (at0 + ((quoteL t).length + 2) = j + 1) := by have := HTo.out; unfold Hid; omega
              rw [HJ.out] at HQ
              clear h1000
              have bY := HX.out
              have y0 := bY.cell 0
              have y1 := bY.cell 1
              have y2 := bY.cell 2
              have y3 := bY.cell 3
              have y4 := bY.cell 4
              have y5 := bY.cell 5
              have y6 := bY.cell 6
              have y7 := bY.cell 7
              have y8 := bY.cell 8
              have y9 := bY.cell 9
              simp only [List.getElem?_toArray, List.getElem?_cons_zero, List.getElem?_cons_succ] at y0 y1 y2 y3 y4 y5 y6 y7 y8 y9
              have f0 := bY.frozen 0
              have f1 := bY.frozen 1
              have f2 := bY.frozen 2
              have f3 := bY.frozen 3
              have f4 := bY.frozen 4
              have f5 := bY.frozen 5
              have f6 := bY.frozen 6
              have f7 := bY.frozen 7
              have f8 := bY.frozen 8
              have f9 := bY.frozen 9
              clear bY
              go_wp2_with fail
              unfold GotPost
              rw [HQ.out]
              refine bodyPost_ret ?_ rfl ⟨rfl, ?_⟩
              · simp [results, Tryz.results44, go_sem, gotC, y0, y1, y2, y3, y4, y5, y6, y7, y8, y9]
              · exact (((((((((hb.setCell (Nat.le_refl _) _).setCell (Nat.le_refl _) _).setCell (Nat.le_refl _) _).setCell (Nat.le_refl _) _).setCell (Nat.le_refl _) _).setCell (Nat.le_refl _) _).setCell (Nat.le_refl _) _).setCell (Nat.le_refl _) _).setCell (Nat.le_refl _) _).setCell (Nat.le_refl _) _
        · have hj1i : ¬ (j : Int) + 1 < (s.size : Int) := by omega
          have HLs : Hid (textS false (s.data.toList.drop j) = (1, 0)) := by
            unfold Hid; rw [HD.out]
            exact textS_last (.inl (List.drop_eq_nil_of_le (by rw [size_list]; omega)))
          have HT : Hid (tsR (s.data.toList.drop at0) = ((quoteL t).length + 2, 0) ∧ txtV (s.data.toList.drop at0) = t) := text_end HQu.out (HSh.out.trans (by rw [HLs.out]; rfl)) HHd.out
          by_cases h1000 : 1000 < t.length
          · have HQ := Lib.hid (got_bad (at0 := at0) (show txtR (s.data.toList.drop at0) = (Tok.zero, 0, 2) by unfold txtR; rw [HT.out.1, HT.out.2, if_pos rfl, if_pos h1000]) (by decide))
            have h1i : (1000 : Int) < (t.length : Int) := by omega
            clear h1000
            go_wp2_with fail
            refine (wrong_any _ _ _).mono ?_
            rintro e w3 ⟨rfl, b3⟩
            have hb3 := hb.trans (b3.mono hb.size)
            have bY := HX.out.below b3
            have y0 := bY.cell 0
            have y1 := bY.cell 1
            have y2 := bY.cell 2
            have y3 := bY.cell 3
            have y4 := bY.cell 4
            have y5 := bY.cell 5
            have y6 := bY.cell 6
            have y7 := bY.cell 7
            have y8 := bY.cell 8
            have y9 := bY.cell 9
            simp only [List.getElem?_toArray, List.getElem?_cons_zero, List.getElem?_cons_succ] at y0 y1 y2 y3 y4 y5 y6 y7 y8 y9
            have f0 := bY.frozen 0
            have f1 := bY.frozen 1
            have f2 := bY.frozen 2
            have f3 := bY.frozen 3
            have f4 := bY.frozen 4
            have f5 := bY.frozen 5
            have f6 := bY.frozen 6
            have f7 := bY.frozen 7
            have f8 := bY.frozen 8
            have f9 := bY.frozen 9
            clear bY b3
            unfold wrongC
            go_wp2_with fail
            unfold GotPost
            rw [HQ.out]
            refine bodyPost_ret ?_ rfl ⟨rfl, ?_⟩
            · simp [results, Tryz.results44, go_sem, wrongC, y0, y1, y2, y3, y4, y5, y6, y7, y8, y9]
            · exact (((((((((hb3.setCell (Nat.le_refl _) _).setCell (Nat.le_refl _) _).setCell (Nat.le_refl _) _).setCell (Nat.le_refl _) _).setCell (Nat.le_refl _) _).setCell (Nat.le_refl _) _).setCell (Nat.le_refl _) _).setCell (Nat.le_refl _) _).setCell (Nat.le_refl _) _).setCell (Nat.le_refl _) _
          · have HQ := Lib.hid (got_ok (at0 := at0) (show txtR (s.data.toList.drop at0) = (⟨3, [], 4, 0, t⟩, (quoteL t).length + 2, 0) by unfold txtR; rw [HT.out.1, HT.out.2, if_pos rfl, if_neg h1000]))
            have h1i : ¬ (1000 : Int) < (t.length : Int) := by omega
            have HJ : Hid (at0 + ((quoteL t).length + 2) = j + 1) := by have := HTo.out; unfold Hid; omega
            rw [HJ.out] at HQ
            clear h1000
            have bY := HX.out
            have y0 := bY.cell 0
            have y1 := bY.cell 1
            have y2 := bY.cell 2
            have y3 := bY.cell 3
            have y4 := bY.cell 4
            have y5 := bY.cell 5
            have y6 := bY.cell 6
            have y7 := bY.cell 7
            have y8 := bY.cell 8
            have y9 := bY.cell 9
            simp only [List.getElem?_toArray, List.getElem?_cons_zero, List.getElem?_cons_succ] at y0 y1 y2 y3 y4 y5 y6 y7 y8 y9
            have f0 := bY.frozen 0
            have f1 := bY.frozen 1
            have f2 := bY.frozen 2
            have f3 := bY.frozen 3
            have f4 := bY.frozen 4
            have f5 := bY.frozen 5
            have f6 := bY.frozen 6
            have f7 := bY.frozen 7
            have f8 := bY.frozen 8
            have f9 := bY.frozen 9
            clear bY
            go_wp2_with fail
            unfold GotPost
            rw [HQ.out]
            refine bodyPost_ret ?_ rfl ⟨rfl, ?_⟩
            · simp [results, Tryz.results44, go_sem, gotC, y0, y1, y2, y3, y4, y5, y6, y7, y8, y9]
            · exact (((((((((hb.setCell (Nat.le_refl _) _).setCell (Nat.le_refl _) _).setCell (Nat.le_refl _) _).setCell (Nat.le_refl _) _).setCell (Nat.le_refl _) _).setCell (Nat.le_refl _) _).setCell (Nat.le_refl _) _).setCell (Nat.le_refl _) _).setCell (Nat.le_refl _) _).setCell (Nat.le_refl _) _
      · have h39b : ((c : Int) == 39) = false := by simp; omega
        have HNe : Hid ((Lib.decodeL (s.data.toList.drop j)).1 ≠ 39) := by
          intro e
          obtain ⟨l', hl'⟩ := dec_39 (ne_nil s j hlt) e
          rw [HD.out] at hl'
          obtain ⟨rfl, _⟩ := List.cons.inj hl'
          exact h39 (HXc.out.symm.trans rfl)
        have HNil := Lib.hid (ne_nil s j hlt)
        by_cases hbad : (Lib.decodeL (s.data.toList.drop j)).1 = 65533 ∧ (Lib.decodeL (s.data.toList.drop j)).2 = 1
        · have HRN : Hid (runeN (s.data.toList.drop j) = 0) := by unfold Hid runeN; rw [if_pos hbad]
          have HTB : Hid (textS false ((s.data.toList.drop at0).drop 1) = ((quoteL t).length, 40)) := by
            unfold Hid; rw [HSh.out, textS_bad HNil.out hbad.1 hbad.2]; rfl
          have HQ := Lib.hid (got_bad (at0 := at0) (show txtR (s.data.toList.drop at0) = (Tok.zero, 1 + (quoteL t).length, 40) by
            have h1 : tsR (s.data.toList.drop at0) = (1 + (quoteL t).length, 40) := by unfold tsR; rw [HTB.out, if_neg (by simp)]
            unfold txtR; rw [h1, if_neg (by simp)]) (by decide))
          have HJ : Hid (at0 + (1 + (quoteL t).length) = j) := by have := HTo.out; unfold Hid; omega
          rw [HJ.out] at HQ
          clear hbad h39 HXc
          go_wp2_with fail
          refine (hRun.out _).mono ?_
          rintro e w2 ⟨rfl, b2⟩
          rw [HRN.out]
          have hb2 := hb.trans (b2.mono hb.size)
          have HX2 := Lib.hid (HX.out.below b2)
          clear b2 hb HX
          go_wp2_with fail
          refine (wrong_any _ _ _).mono ?_
          rintro e w3 ⟨rfl, b3⟩
          have hb3 := hb2.trans (b3.mono hb2.size)
          have bY := HX2.out.below b3
          have y0 := bY.cell 0
          have y1 := bY.cell 1
          have y2 := bY.cell 2
          have y3 := bY.cell 3
          have y4 := bY.cell 4
          have y5 := bY.cell 5
          have y6 := bY.cell 6
          have y7 := bY.cell 7
          have y8 := bY.cell 8
          have y9 := bY.cell 9
          simp only [List.getElem?_toArray, List.getElem?_cons_zero, List.getElem?_cons_succ] at y0 y1 y2 y3 y4 y5 y6 y7 y8 y9
          have f0 := bY.frozen 0
          have f1 := bY.frozen 1
          have f2 := bY.frozen 2
          have f3 := bY.frozen 3
          have f4 := bY.frozen 4
          have f5 := bY.frozen 5
          have f6 := bY.frozen 6
          have f7 := bY.frozen 7
          have f8 := bY.frozen 8
          have f9 := bY.frozen 9
          clear bY b3
          unfold wrongC
          go_wp2_with fail
          unfold GotPost
          rw [HQ.out]
          refine bodyPost_ret ?_ rfl ⟨rfl, ?_⟩
          · simp [results, Tryz.results44, go_sem, wrongC, y0, y1, y2, y3, y4, y5, y6, y7, y8, y9]
          · exact (((((((((hb3.setCell (Nat.le_refl _) _).setCell (Nat.le_refl _) _).setCell (Nat.le_refl _) _).setCell (Nat.le_refl _) _).setCell (Nat.le_refl _) _).setCell (Nat.le_refl _) _).setCell (Nat.le_refl _) _).setCell (Nat.le_refl _) _).setCell (Nat.le_refl _) _).setCell (Nat.le_refl _) _
        · obtain ⟨d, hd⟩ : ∃ d, d = (Lib.decodeL (s.data.toList.drop j)).2 := ⟨_, rfl⟩
          have hw1 := Lib.decodeL_width (s.data.toList.drop j)
          have hle := Lib.decodeL_le _ HNil.out
          rw [List.length_drop, size_list] at hle
          have HRN : Hid (runeN (s.data.toList.drop j) = d) := by unfold Hid runeN; rw [if_neg hbad]; exact hd.symm
          have hsame := quote_same (dec_no39 HNil.out HNe.out)
          have hgo := textS_go HNil.out HNe.out hbad
          rw [← hd] at hw1 hle hsame hgo
          have htk : ((s.data.toList.drop j).take d).length = d := by rw [List.length_take, List.length_drop, size_list]; omega
          have hq2 : quoteL (t ++ (s.data.toList.drop j).take d) = quoteL t ++ (s.data.toList.drop j).take d := by rw [quoteL_append, hsame]
          have HT2 : Hid (j + d = at0 + 1 + (quoteL (t ++ (s.data.toList.drop j).take d)).length) := by have := HTo.out; unfold Hid; rw [hq2, List.length_append, htk]; omega
          have HQ2 : Hid ((s.data.toList.drop at0).drop 1 = quoteL (t ++ (s.data.toList.drop j).take d) ++ s.data.toList.drop (j + d)) := by
            unfold Hid; rw [HQt.out, hq2, List.append_assoc, ← List.drop_drop, List.take_append_drop]
          have HS2 : Hid (textS false ((s.data.toList.drop at0).drop 1) = shiftR (quoteL (t ++ (s.data.toList.drop j).take d)).length (textS false (s.data.toList.drop (j + d)))) := by
            unfold Hid
            rw [HSh.out, hgo, shift_shift, hq2, List.length_append, htk, List.drop_drop]
          have HL2 : Hid (t.length + d ≤ 4000) := by
            have h1 := congrArg List.length HQ2.out
            have h2 : (t ++ (s.data.toList.drop j).take d).length ≤ (quoteL (t ++ (s.data.toList.drop j).take d)).length := quoteL_ge _
            rw [List.length_drop, List.length_drop, List.length_append, size_list] at h1
            rw [List.length_append, htk] at h2
            unfold Hid; omega
          have HTK := Lib.hid htk
          have hdb : ((d : Int) == 0) = false := by simp; omega
          clear hbad h39 HXc hd hsame hgo hq2 htk
          go_wp2_with fail
          refine (hRun.out _).mono ?_
          rintro e w2 ⟨rfl, b2⟩
          rw [HRN.out]
          have hb2 := hb.trans (b2.mono hb.size)
          have HX2 := Lib.hid (HX.out.below b2)
          clear b2 hb HX
          go_wp2_with fail
          go_roundw
          case rel =>
            refine ⟨j + d, t ++ (s.data.toList.drop j).take d, by go_num, str_val _ _ ?_, by omega, hb2, HX2.out, HT2, HQ2, HS2, by rw [List.length_append, HTK.out]; exact HL2.out⟩
            simp [ByteArray.data_append]
          case measure => simp [intOf]; omega
    · obtain rfl : j = s.size := by omega
      have HTB : Hid (textS false ((s.data.toList.drop at0).drop 1) = ((quoteL t).length, 41)) := by
        unfold Hid; rw [HSh.out, List.drop_eq_nil_of_le (by rw [size_list]; exact Nat.le_refl _), textS_nil]; rfl
      have HQ := Lib.hid (got_bad (at0 := at0) (show txtR (s.data.toList.drop at0) = (Tok.zero, 0, 41) by
        have h1 : tsR (s.data.toList.drop at0) = (0, 41) := by unfold tsR; rw [HTB.out, if_pos rfl]
        unfold txtR; rw [h1, if_neg (by simp)]) (by decide))
      go_wp2_with fail
      refine (wrong_any _ _ _).mono ?_
      rintro e w3 ⟨rfl, b3⟩
      have hb3 := hb.trans (b3.mono hb.size)
      have bY := HX.out.below b3
      have y0 := bY.cell 0
      have y1 := bY.cell 1
      have y2 := bY.cell 2
      have y3 := bY.cell 3
      have y4 := bY.cell 4
      have y5 := bY.cell 5
      have y6 := bY.cell 6
      have y7 := bY.cell 7
      have y8 := bY.cell 8
      have y9 := bY.cell 9
      simp only [List.getElem?_toArray, List.getElem?_cons_zero, List.getElem?_cons_succ] at y0 y1 y2 y3 y4 y5 y6 y7 y8 y9
      have f0 := bY.frozen 0
      have f1 := bY.frozen 1
      have f2 := bY.frozen 2
      have f3 := bY.frozen 3
      have f4 := bY.frozen 4
      have f5 := bY.frozen 5
      have f6 := bY.frozen 6
      have f7 := bY.frozen 7
      have f8 := bY.frozen 8
      have f9 := bY.frozen 9
      clear bY b3
      unfold wrongC
      go_wp2_with fail
      unfold GotPost
      rw [HQ.out]
      refine bodyPost_ret ?_ rfl ⟨rfl, ?_⟩
      · simp [results, Tryz.results44, go_sem, wrongC, y0, y1, y2, y3, y4, y5, y6, y7, y8, y9]
      · exact (((((((((hb3.setCell (Nat.le_refl _) _).setCell (Nat.le_refl _) _).setCell (Nat.le_refl _) _).setCell (Nat.le_refl _) _).setCell (Nat.le_refl _) _).setCell (Nat.le_refl _) _).setCell (Nat.le_refl _) _).setCell (Nat.le_refl _) _).setCell (Nat.le_refl _) _).setCell (Nat.le_refl _) _

end Go.Proofs.YtlmjijiepnefdaaGreatDoor

/-
  The contract of the reference's bytes.
-/
namespace Go.Proofs.YtlmjijiepnefdaaGreatDoor
open Go.RowKit

def encN (n : Nat) : List Value := [.int .i64 (n : Int)]
theorem encN_len (n : Nat) : (encN n).length = 1 := rfl
theorem Tryz.info3 : (Tryz.prog.info? 3).map (fun i => (i.zero, i.size, i.bytes)) = some (some (.int .i64 0), 1, 8) := by kernel_rfl
theorem valN_new (w : World) (n : Nat) (B : Nat) (hB : B = w.heap.size) : ValG encN 1 (w.alloc (.cells #[.int .i64 (n : Int)] 3)) (.slice (some ⟨B, 0, none⟩) 1 1) [n] := by
  subst hB
  refine .inr ⟨w.heap.size, 0, 1, rfl, show 1 ≤ maxLen by decide, by rw [World.size_alloc]; omega, ?_, by simp⟩
  intro i x hi r u hr
  have hi0 : i = 0 := by
    have := (List.getElem?_eq_some_iff.1 hi).1
    simp at this; omega
  subst hi0
  obtain rfl : n = x := by simpa using hi
  have hr0 : r = 0 := by
    have := (List.getElem?_eq_some_iff.1 hr).1
    simp [encN] at this; omega
  subst hr0
  rw [show 0 + 0 * 1 + 0 = 0 from rfl, (Blk.new w #[.int .i64 (n : Int)] 3).cell 0]
  exact hr
theorem one_n (n : Nat) : ∀ x ∈ [n], ∀ u ∈ encN x, u.oneCell' = true := by
  intro x hx u hu
  rw [List.mem_singleton] at hx
  subst hx
  simp only [encN, List.mem_singleton] at hu
  subst hu; rfl
theorem OwnN.slice {w : World} {base : Nat} {v : Value} {l : List Nat} (h : OwnG encN 1 3 w base v l) : ∃ a cap, v = .slice a l.length cap := by
  rcases h.shape with ⟨rfl, rfl⟩ | ⟨g, cap, rfl, _⟩
  · exact ⟨_, _, rfl⟩
  · exact ⟨_, _, rfl⟩

def encB (x : UInt8) : List Value := [.int .u8 (x.toNat : Int)]
theorem encB_len (x : UInt8) : (encB x).length = 1 := rfl
theorem Tryz.info5 : (Tryz.prog.info? 5).map (fun i => (i.zero, i.size, i.bytes)) = some (some (.int .u8 0), 1, 1) := by kernel_rfl
theorem OwnB1.slice {w : World} {base : Nat} {v : Value} {l : List UInt8} (h : OwnG encB 1 5 w base v l) : ∃ a cap, v = .slice a l.length cap := by
  rcases h.shape with ⟨rfl, rfl⟩ | ⟨g, cap, rfl, _⟩
  · exact ⟨_, _, rfl⟩
  · exact ⟨_, _, rfl⟩

theorem valB_at (w : World) (B : Nat) (x : UInt8) (z : Int) (hB : B = w.heap.size) (hz : (x.toNat : Int) = z) : ValG encB 1 (w.alloc (.cells #[.int .u8 z] 5)) (.slice (some ⟨B, 0, none⟩) 1 1) [x] := by
  subst hB
  subst hz
  refine .inr ⟨w.heap.size, 0, 1, rfl, show 1 ≤ maxLen by decide, by rw [World.size_alloc]; omega, ?_, by simp⟩
  intro i y hi r u hr
  have hi0 : i = 0 := by
    have := (List.getElem?_eq_some_iff.1 hi).1
    simp at this; omega
  subst hi0
  obtain rfl : x = y := by simpa using hi
  have hr0 : r = 0 := by
    have := (List.getElem?_eq_some_iff.1 hr).1
    simp [encB] at this; omega
  subst hr0
  rw [show 0 + 0 * 1 + 0 = 0 from rfl, (Blk.new w #[.int .u8 (x.toNat : Int)] 5).cell 0]
  exact hr
theorem own_n {w : World} {base cap : Nat} {va : Option Addr} {L : List Nat} (h : OwnG encN 1 3 w base (.slice va L.length cap) L) (hk : 0 < L.length) :
    ∃ g, va = some ⟨g, 0, none⟩ ∧ g < w.heap.size ∧ ∀ q, q < L.length → w.cell? ⟨g, q, none⟩ = some (.int .i64 ((L.getD q 0 : Nat) : Int)) := by
  rcases h.shape with ⟨_, rfl⟩ | ⟨g, cap', e1, hb, hg, hl, hc, _⟩
  · simp at hk
  · obtain ⟨rfl, _, rfl⟩ : va = some ⟨g, 0, none⟩ ∧ L.length = L.length ∧ cap = cap' := by simpa using e1
    refine ⟨g, rfl, hg, ?_⟩
    intro q hq
    rcases h.val encN_len with ⟨e2, _⟩ | ⟨b, off, cp, e2, _, _, hat, _⟩
    · simp at e2
    · obtain ⟨⟨rfl, rfl⟩, rfl⟩ : (g = b ∧ 0 = off) ∧ cap = cp := by simpa using e2
      have := hat q L[q] (List.getElem?_eq_getElem hq) 0 _ rfl
      rw [show 0 + q * 1 + 0 = q by omega] at this
      rw [this, List.getD_eq_getElem?_getD, List.getElem?_eq_getElem hq]; rfl
section
variable {α : Type} {enc : α → List Value} {k : Nat}
theorem step_append_g {P : Program} (hk : ∀ x, (enc x).length = k) (hpos : 0 < k) (t e : TypeId) (i : TypeInfo) (z : Value) (bytes : Nat) (ht : P.underlying t = some (.slice e)) (hi : P.info? e = some i) (hz : i.zero = some z) (hsize : i.size = k) (hby : i.bytes = bytes) (hzs : z.cells.size = k)
    {ops : Array Oper} {o : Oper} {a : Act} {K : Act → World → Prop} {Q : Exit → Act → World → Prop} {E : Prop} (w : World) (hgd : o.guard = none) (s x : Operand)
    (ho : o.op = .call { callee := .builtin .append, args := #[s, x], argTypes := #[t, t] })
    (base : Nat) (v vx : Value) (l m : List α) (hs : a.eval s = v) (hx : a.eval x = vx) (hown : OwnG enc k e w base v l) (hr : ValG enc k w vx m) (h1 : ∀ x ∈ m, ∀ u ∈ enc x, u.oneCell' = true)
    (hm : l.length + m.length ≤ maxLen) (hlen : (l.length + m.length) * bytes ≤ 140737488355328) (hbase : base ≤ w.heap.size) (d : Option Nat) (hd : o.dst = d)
    (h : ∀ v' w', OwnG enc k e w' base v' (l ++ m) → w.grownBy w' v.ownBlock → K (a.put d v') w') :
    if Region.wanted o (yielded ops a.tmps) = true then Oper.wp P o a w K Q else E := by
  have hw : Region.wanted o (yielded ops a.tmps) = true := by simp [Region.wanted, hgd]
  rw [if_pos hw]
  subst hd
  obtain ⟨v', w', hrun, h2, h3⟩ := run_append_g hk hpos t e i z bytes ht hi hz hsize hby hzs w o.type base v vx l m hown hr h1 hm hlen hbase
  unfold Oper.wp execOp
  simp only [ho, resolve, invoke, builtin, Sem.run_bind, Sem.run_pure, Result.andThen_ok, List.map_toArray, List.map_cons, List.map_nil, hs, hx, hrun]
  exact h v' w' h2 h3
end

theorem byte_wrap (a b : Nat) (ha : a ≤ 15) (hb : b ≤ 15) : ((UInt8.ofNat (a * 16 + b)).toNat : Int) = IntKind.u8.wrap (IntKind.i64.wrap ((a : Int) * 16 + b)) := by
  obtain ⟨n, hn⟩ : ∃ n, n = a * 16 + b := ⟨_, rfl⟩
  have e : (a : Int) * 16 + b = (n : Int) := by omega
  have hl : n ≤ 255 := by omega
  rw [e, ← hn]
  have h1 : IntKind.i64.wrap (n : Int) = n := by rw [IntKind.wrap_i64]; omega
  rw [h1, IntKind.wrap_u8, UInt8.toNat_ofNat']
  omega
theorem byte_wrap2 (a b : Nat) (ha : a ≤ 15) (hb : b ≤ 15) : ((UInt8.ofNat (a * 16 + b)).toNat : Int) = IntKind.u8.wrap (IntKind.i64.wrap (IntKind.i64.wrap ((a : Int) * 16) + b)) := by
  obtain ⟨n, hn⟩ : ∃ n, n = a * 16 := ⟨_, rfl⟩
  have e : (a : Int) * 16 = (n : Int) := by omega
  have hl : n ≤ 255 := by omega
  have h1 : IntKind.i64.wrap (n : Int) = n := by rw [IntKind.wrap_i64]; omega
  rw [byte_wrap a b ha hb, e, h1]
theorem conv_own {w : World} {base cap : Nat} {va : Option Addr} {B : List UInt8} (h : OwnG encB 1 5 w base (.slice va B.length cap) B) : (convert 52 9 (.slice va B.length cap)).run Tryz.prog w = .ok (.string ⟨B.toArray⟩) w := by
  rcases h.val encB_len with ⟨e2, e3⟩ | ⟨b, off, cp, e2, _, _, hat, _⟩
  · subst e3
    rw [e2, run_convert_bytes_string w 52 9 5 none 0 0 Tryz.underlying52 Tryz.underlying5 Tryz.underlying9]; rfl
  · rw [e2]
    refine run_convert_bytes_back (P := Tryz.prog) w 52 9 5 ⟨b, off, none⟩ cp B Tryz.underlying52 Tryz.underlying5 Tryz.underlying9 (fun j hj => ?_)
    have := hat j B[j] (List.getElem?_eq_getElem hj) 0 _ rfl
    rw [show off + j * 1 + 0 = off + j by omega] at this
    rw [Lib.add_plain, this]
theorem one_b (n : UInt8) : ∀ x ∈ [n], ∀ u ∈ encB x, u.oneCell' = true := by
  intro x hx u hu
  rw [List.mem_singleton] at hx
  subst hx
  simp only [encB, List.mem_singleton] at hu
  subst hu; rfl
theorem pair_at {q : List UInt8} {ds : List Nat} {k a b : Nat} (hd : ds = (q.take ds.length).map nibV) (hx : ∀ c ∈ q.take ds.length, hexB c = true) (hk2 : k % 2 = 0) (hk : k + 1 < ds.length) (ha : ds.getD k 0 = a) (hb : ds.getD (k + 1) 0 = b) :
    (a ≤ 15 ∧ b ≤ 15) ∧ pairB (q.take (k + 2)) = pairB (q.take k) ++ [UInt8.ofNat (a * 16 + b)] := by
  have hql : ds.length ≤ q.length := by
    have := congrArg List.length hd
    rw [List.length_map, List.length_take] at this; omega
  have hget : ∀ j, j < ds.length → ∃ h : j < q.length, ds.getD j 0 = nibV q[j] ∧ hexB q[j] = true := by
    intro j hj
    have hjq : j < q.length := by omega
    refine ⟨hjq, ?_, ?_⟩
    · rw [hd, List.getD_eq_getElem?_getD, List.getElem?_map, List.getElem?_take, if_pos hj, List.getElem?_eq_getElem hjq]; rfl
    · exact hx _ (List.mem_iff_getElem?.2 ⟨j, by rw [List.getElem?_take, if_pos hj, List.getElem?_eq_getElem hjq]⟩)
  obtain ⟨h1, e1, x1⟩ := hget k (by omega)
  obtain ⟨h2, e2, x2⟩ := hget (k + 1) hk
  have n1 := nib_le _ x1
  have n2 := nib_le _ x2
  rw [ha] at e1
  rw [hb] at e2
  refine ⟨⟨by omega, by omega⟩, ?_⟩
  rw [pair_step q k hk2 (by omega)]
  have hdk : (q.drop k).take 2 = [q[k], q[k + 1]] := by
    rw [List.drop_eq_getElem_cons h1, List.drop_eq_getElem_cons h2]; rfl
  rw [hdk, hexF_cons, hexF_cons, ← e1, ← e2]
  show _ = pairB (q.take k) ++ [UInt8.ofNat (a * 16 + b)]
  have : hexF ((0 * 16 + a) * 16 + b) [] = a * 16 + b := by show (0 * 16 + a) * 16 + b = _; omega
  rw [this]

set_option maxHeartbeats 8000000 in
set_option maxRecDepth 100000 in
theorem refBytes_any (s : ByteArray) (at0 : Nat) (w : World) (hs : s.size ≤ 4000) (ha : at0 + 2 ≤ s.size) : Calls Tryz.prog 41 #[.string s, .int .i64 at0] w (GotPost (octR (s.data.toList.drop at0)) at0 w) := by
  obtain ⟨i0, hi, hz0, hz1, hz2⟩ := info_parts Tryz.info3
  have b0 := (Below.refl w.heap.size w).alloc (Nat.le_refl _) (.cells (wrongC 0 0) 48)
  have bX0 : Blk (w.alloc (.cells (wrongC 0 0) 48)) w.heap.size (wrongC 0 0) 48 := Blk.new _ _ _
  have hN := (OwnG.lit0 (enc := encN) (k := 1) 3 (w.alloc (.cells (wrongC 0 0) 48)) (w.alloc (.cells (wrongC 0 0) 48)).heap.size (Nat.le_refl _))
  have bX1 := bX0.alloc (.cells #[] 3)
  have b1 := b0.alloc b0.size (.cells #[] 3)
  rw [World.size_alloc] at hN
  unfold wrongC at b1 bX1 hN
  clear b0 bX0
  have HD2 : Hid ((s.data.toList.drop at0).drop 2 = s.data.toList.drop (at0 + 2)) := List.drop_drop
  go_enter Tryz.func41, Tryz.ntmps41
  go_wp2_with fail
  generalize (w.alloc (.cells #[.int .i64 0, .string ⟨#[]⟩, .int .i64 0, .int .i64 0, .string ⟨#[]⟩, .int .i64 0, .int .i64 0, .int .i64 0, .int .i64 0, .bool false] 48)).alloc (.cells #[] 3) = w1 at *
  go_loopw [5, 6] (fun v i wr => ∃ (j : Nat) (ds : List Nat), i = .int .i64 j ∧ j ≤ s.size ∧ Below w.heap.size w wr ∧ Hid (Blk wr w.heap.size #[.int .i64 0, .string ⟨#[]⟩, .int .i64 0, .int .i64 0, .string ⟨#[]⟩, .int .i64 0, .int .i64 0, .int .i64 0, .int .i64 0, .bool false] 48) ∧
      Hid (OwnG encN 1 3 wr (w.heap.size + 1) v ds) ∧ ds.length ≤ 4000 ∧ w.heap.size + 1 ≤ wr.heap.size ∧ Hid (j = at0 + 2 + ds.length) ∧ Hid (ds = ((s.data.toList.drop (at0 + 2)).take ds.length).map nibV) ∧ Hid (runN hexB (s.data.toList.drop (at0 + 2)) = ds.length + runN hexB (s.data.toList.drop j))) (fun _ i _ => s.size - (intOf i).toNat)
  case atStart => exact ⟨at0 + 2, [], by go_num, ha, b1, bX1, hN, by simp, by have := bX1.lt; omega, rfl, by unfold Hid; simp, by unfold Hid; simp⟩
  case round =>
    obtain ⟨j, ds, rfl, hj, hb, HX, HO, hdl, hB, HTo, HDs, HRu⟩ := hrel
    clear b1 bX1 hN
    obtain ⟨av, cap, rfl⟩ := OwnN.slice HO.out
    by_cases hlt : j < s.size
    · have HD := Lib.hid (drop_cons s j hlt)
      obtain ⟨x, hx⟩ : ∃ x : UInt8, s[j] = x := ⟨_, rfl⟩
      obtain ⟨c, hc⟩ : ∃ c : Nat, s[j].toNat = c := ⟨_, rfl⟩
      have hc1 : c < 256 := hc ▸ UInt8.toNat_lt _
      have HXc : Hid (x.toNat = c) := by unfold Hid; rw [← hx]; exact hc
      have HSx : Hid (∀ w' : World, Calls Tryz.prog 63 #[.int .u8 (c : Int)] w' fun e w'' => e = .returned (.int .i64 (if hexB x then (nibV x : Int) else -1)) ∧ w'' = w') := by
        have := fun w' => sixteenth_any x w'
        rwa [HXc.out] at this
      rw [hx] at HD
      clear hx
      have hgd : (s.data.toList.drop (at0 + 2)).getD ds.length 0 = x := by
        have h1 : (s.data.toList.drop (at0 + 2)).getD ds.length 0 = (s.data.toList.drop j).getD 0 0 := by
          rw [List.getD_eq_getElem?_getD, List.getD_eq_getElem?_getD, List.getElem?_drop, List.getElem?_drop, ← HTo.out, Nat.add_zero]
        rw [h1, HD.out]; rfl
      have hlne : ds.length ≠ (s.data.toList.drop (at0 + 2)).length := by
        rw [List.length_drop, size_list]; have := HTo.out; omega
      have HG := Lib.hid (And.intro hgd hlne)
      clear hgd hlne
      by_cases h39 : c = 39
      · have hx39 : x = 39 := UInt8.toNat_inj.1 (HXc.out.trans h39)
        subst hx39
        subst h39
        clear HXc HSx
        have HRn : Hid (runN hexB (s.data.toList.drop (at0 + 2)) = ds.length) := by
          have h1 := HRu.out
          rw [HD.out, runN_cons, if_neg (by decide)] at h1
          unfold Hid; omega
        by_cases hodd : ds.length % 2 = 1
        · have HQ := Lib.hid (got_bad (at0 := at0) (show octR (s.data.toList.drop at0) = (Tok.zero, 0, 42) by
            unfold octR octN
            rw [HD2.out, HRn.out, if_neg HG.out.2, HG.out.1, if_pos (.inr (by omega))]) (by decide))
          have hm : ((ds.length : Int) % 2 == 1) = true := by simp; omega
          clear hodd
          go_wp2_with fail
          refine (wrong_any _ _ _).mono ?_
          rintro e w3 ⟨rfl, b3⟩
          have hb3 := hb.trans (b3.mono hb.size)
          have bY := HX.out.below b3
          have y0 := bY.cell 0
          have y1 := bY.cell 1
          have y2 := bY.cell 2
          have y3 := bY.cell 3
          have y4 := bY.cell 4
          have y5 := bY.cell 5
          have y6 := bY.cell 6
          have y7 := bY.cell 7
          have y8 := bY.cell 8
          have y9 := bY.cell 9
          simp only [List.getElem?_toArray, List.getElem?_cons_zero, List.getElem?_cons_succ] at y0 y1 y2 y3 y4 y5 y6 y7 y8 y9
          have f0 := bY.frozen 0
          have f1 := bY.frozen 1
          have f2 := bY.frozen 2
          have f3 := bY.frozen 3
          have f4 := bY.frozen 4
          have f5 := bY.frozen 5
          have f6 := bY.frozen 6
          have f7 := bY.frozen 7
          have f8 := bY.frozen 8
          have f9 := bY.frozen 9
          clear bY b3
          unfold wrongC
          go_wp2_with fail
          unfold GotPost
          rw [HQ.out]
          refine bodyPost_ret ?_ rfl ⟨rfl, ?_⟩
          · simp [results, Tryz.results41, go_sem, wrongC, y0, y1, y2, y3, y4, y5, y6, y7, y8, y9]
          · exact (((((((((hb3.setCell (Nat.le_refl _) _).setCell (Nat.le_refl _) _).setCell (Nat.le_refl _) _).setCell (Nat.le_refl _) _).setCell (Nat.le_refl _) _).setCell (Nat.le_refl _) _).setCell (Nat.le_refl _) _).setCell (Nat.le_refl _) _).setCell (Nat.le_refl _) _).setCell (Nat.le_refl _) _
        · have hm : ((ds.length : Int) % 2 == 1) = false := by simp; omega
          have HEv : Hid (ds.length % 2 = 0) := by unfold Hid; omega
          clear hodd
          have hNB := OwnG.lit0 (enc := encB) (k := 1) 5 wr wr.heap.size (Nat.le_refl _)
          have hX1 := HX.out.alloc (.cells #[] 5)
          have hO1 := HO.out.alloc (.cells #[] 5)
          have hb1 := hb.alloc hb.size (.cells #[] 5)
          have hs1 : wr.heap.size < (wr.alloc (.cells #[] 5)).heap.size := by rw [World.size_alloc]; omega
          go_wp2_with fail
          obtain ⟨N0, HN0⟩ : ∃ n : Nat, n = wr.heap.size := ⟨_, rfl⟩
          rw [← HN0] at hNB hs1
          have HNW := Lib.hid (show w.heap.size ≤ N0 by have := hb.size; omega)
          have HOg : Hid (0 < ds.length → ∃ g, av = some ⟨g, 0, none⟩ ∧ g < N0 ∧ ∀ q, q < ds.length → (wr.alloc (.cells #[] 5)).cell? ⟨g, q, none⟩ = some (.int .i64 ((ds.getD q 0 : Nat) : Int))) := by
            intro hp
            obtain ⟨g, e1, h1, h2⟩ := own_n HO.out hp
            exact ⟨g, e1, by omega, fun q hq => (((Below.refl wr.heap.size wr).alloc (Nat.le_refl _) (.cells #[] 5)).cell (p := ⟨g, q, none⟩) h1).trans (h2 q hq)⟩
          generalize wr.alloc (.cells #[] 5) = wx at *
          have HX1 := Lib.hid hX1
          have HO1 := Lib.hid hO1
          clear hX1 hO1 HX HO
          go_loopw [7, 8] (fun v i wq => ∃ (k : Nat) (B : List UInt8), i = .int .i64 k ∧ k ≤ ds.length ∧ k % 2 = 0 ∧ Below N0 wx wq ∧ Hid (OwnG encB 1 5 wq N0 v B) ∧ Hid (B = pairB ((s.data.toList.drop (at0 + 2)).take k)) ∧ B.length ≤ k) (fun _ i _ => ds.length - (intOf i).toNat)
          case atStart => exact ⟨0, [], rfl, by omega, rfl, Below.refl _ _, by (have h := hNB; rw [HN0] at h ⊢; exact h), by unfold Hid; rw [List.take_zero, pairB_nil], by simp⟩
          case round =>
            obtain ⟨k, B, rfl, hk, hk2, hbq, HOB, HBv, hBl⟩ := hrel
            obtain ⟨avb, capb, rfl⟩ := OwnB1.slice HOB.out
            by_cases hkl : k + 1 < ds.length
            · have hbw := hb1.trans (hbq.mono HNW.out)
              obtain ⟨g, e1, hgl, hgc⟩ := HOg.out (by omega)
              subst e1
              obtain ⟨a, ha0⟩ : ∃ a, ds.getD k 0 = a := ⟨_, rfl⟩
              obtain ⟨b, hb0⟩ : ∃ b, ds.getD (k + 1) 0 = b := ⟨_, rfl⟩
              have e0 := hgc k (by omega)
              have e1 := hgc (k + 1) hkl
              rw [ha0] at e0
              rw [hb0] at e1
              have hall := run_all hexB (s.data.toList.drop (at0 + 2))
              rw [HRn.out] at hall
              have HAB : Hid ((a ≤ 15 ∧ b ≤ 15) ∧ pairB ((s.data.toList.drop (at0 + 2)).take (k + 2)) = pairB ((s.data.toList.drop (at0 + 2)).take k) ++ [UInt8.ofNat (a * 16 + b)]) := pair_at HDs.out hall hk2 hkl ha0 hb0
              obtain ⟨ha15, hb15⟩ := HAB.out.1
              have HVx : Hid (((UInt8.ofNat (a * 16 + b)).toNat : Int) = IntKind.u8.wrap (IntKind.i64.wrap ((a : Int) * 16 + b))) := byte_wrap a b ha15 hb15
              have HCW : Hid (∀ w', Below N0 wx w' → w'.cell? ⟨g, k, none⟩ = some (.int .i64 (a : Int)) ∧ w'.cell? ⟨g, k + 1, none⟩ = some (.int .i64 (b : Int))) := fun w' h => ⟨(h.cell (p := ⟨g, k, none⟩) hgl).trans e0, (h.cell (p := ⟨g, k + 1, none⟩) hgl).trans e1⟩
              obtain ⟨c0, c1⟩ := HCW.out _ hbq
              have hkli : (k : Int) + 1 < (ds.length : Int) := by omega
              have HVx2 : Hid (((UInt8.ofNat (a * 16 + b)).toNat : Int) = IntKind.u8.wrap (IntKind.i64.wrap (IntKind.i64.wrap ((a : Int) * 16) + b))) := byte_wrap2 a b ha15 hb15
              have hkw : IntKind.i64.wrap ((k : Int) + 1) = (k : Int) + 1 := by rw [IntKind.wrap_i64]; omega
              have hkr : IntKind.i64.wrap ((k : Int) + 1) < (ds.length : Int) := by rw [hkw]; exact hkli
              have hk0 : 0 ≤ IntKind.i64.wrap ((k : Int) + 1) := by rw [hkw]; omega
              obtain ⟨i5, hi5, hz50, hz51, hz52⟩ := info_parts Tryz.info5
              have hzq := hbq.size
              have HB1 := Lib.hid (show B.length + [UInt8.ofNat (a * 16 + b)].length ≤ 4001 by simp; omega)
              have HB2 := Lib.hid (show 4001 ≤ maxLen by decide)
              have HI5 := Lib.hid hi5
              have HZ50 := Lib.hid hz50
              have HZ51 := Lib.hid hz51
              have HZ52 := Lib.hid hz52
              have HNQ := Lib.hid (show N0 ≤ wr.heap.size by omega)
              have HBk : Hid ((B ++ [UInt8.ofNat (a * 16 + b)]).length ≤ k + 2) := by unfold Hid; simp; omega
              have HBn : Hid (B ++ [UInt8.ofNat (a * 16 + b)] = pairB ((s.data.toList.drop (at0 + 2)).take (k + 2))) := by unfold Hid; rw [HAB.out.2, ← HBv.out]
              have HKE : Hid ((k + 2) % 2 = 0 ∧ k + 2 ≤ ds.length) := by unfold Hid; omega
              clear e0 e1 hgc ha0 hb0 hall hi5 hz50 hz51 hz52 hi hz0 hz1 hz2 hBl HBv HAB hm hk2
              go_wp2_with fail
              obtain ⟨wo, hwo⟩ : ∃ wo : World, wo = wr := ⟨_, rfl⟩
              subst hwo
              go_region_held_law (fun w' => w'.cell? ⟨g, k, none⟩ = some (.int .i64 (a : Int)) ∧ w'.cell? ⟨g, k + 1, none⟩ = some (.int .i64 (b : Int))) (first | exact HCW.out _ k3 | go_keep) ((refine step_append_g encB_len (by decide) 52 5 i5 _ 1 Tryz.underlying52 HI5.out HZ50.out HZ51.out HZ52.out rfl _ (by rfl) (.tmp 37) (.tmp 50) (by rfl) N0 (.slice avb B.length capb) ?_ B [UInt8.ofNat (a * 16 + b)] (by rfl) ?_ ?_ ?_ (one_b _) (Nat.le_trans HB1.out HB2.out) (by have := HB1.out; omega) ?_ (some 51) (by rfl) ?_; exact (.slice (some ⟨wo.heap.size, 0, none⟩) 1 1); exact rfl; exact HOB.out.below ((Below.refl _ _).alloc (Nat.le_refl _) _).drew; exact ValG.below (valB_at wo _ _ _ rfl (by first | exact HVx.out | exact HVx2.out)) (Below.refl _ _).drew; exact Nat.le_trans HNQ.out ((Below.refl _ _).alloc (Nat.le_refl _) _).drew.size; intro v1 w3 ho1 hg1; have k3 : Below N0 wx w3 := (hbq.alloc HNQ.out _).drew.trans (OwnG.grown (HOB.out.below ((Below.refl _ _).alloc (Nat.le_refl _) _).drew) (Nat.le_trans HNQ.out ((Below.refl _ _).alloc (Nat.le_refl _) _).drew.size) hg1)))
              first
                | (rename_i K0 hK0 hx1 hx2 hS0; change K0 _ _)
                | (rename_i K0 hK0 hx1 hS0; change K0 _ _)
                | (rename_i K0 hK0 hx1 hx2 hx3 hS0; change K0 _ _)
              refine hK0 _ _ ?_
              clear hK0 hS0
              go_wp2_with fail
              all_goals exact ⟨⟨k + 2, _, by go_num, HKE.out.2, HKE.out.1, k3, Lib.hid ho1, HBn, HBk.out⟩, by simp [intOf]; omega⟩
            · obtain rfl : k = ds.length := by have := HEv.out; omega
              have hkli : ¬ (ds.length : Int) + 1 < (ds.length : Int) := by omega
              have hql : ds.length ≤ (s.data.toList.drop (at0 + 2)).length := by
                have := congrArg List.length HDs.out
                rw [List.length_map, List.length_take] at this; omega
              have hBn : B.length = ds.length / 2 := by
                rw [HBv.out]
                exact pairB_len _ _ (by rw [List.length_take]; have := HEv.out; omega)
              have HJ : Hid (at0 + (3 + ds.length) = j + 1) := by have := HTo.out; unfold Hid; omega
              have hwN : w.heap.size < N0 := by omega
              have hXq : Blk wr w.heap.size #[.int .i64 0, .string ⟨#[]⟩, .int .i64 0, .int .i64 0, .string ⟨#[]⟩, .int .i64 0, .int .i64 0, .int .i64 0, .int .i64 0, .bool false] 48 := by
                unfold Blk; rw [hbq.block _ hwN]; exact HX1.out
              have HXq := Lib.hid hXq
              clear hXq
              have hbw := hb1.trans (hbq.mono HNW.out)
              have hcv := conv_own HOB.out
              have hno : ¬ ((s.data.toList.drop (at0 + 2)).getD ds.length 0 ≠ 39 ∨ ds.length % 2 ≠ 0) := by
                rintro (h | h)
                · exact h HG.out.1
                · exact h HEv.out
              by_cases h1000 : 1000 < B.length
              · have HQ := Lib.hid (got_bad (at0 := at0) (show octR (s.data.toList.drop at0) = (Tok.zero, 0, 2) by
                  unfold octR octN
                  rw [HD2.out, HRn.out, if_neg HG.out.2, if_neg hno, if_pos (by omega)]) (by decide))
                have h1i : (1000 : Int) < (B.length : Int) := by omega
                clear hno h1000 hcv hql hBn hkl
                go_wp2_with fail
                refine (wrong_any _ _ _).mono ?_
                rintro e w3 ⟨rfl, b3⟩
                have hb3 := hbw.trans (b3.mono hbw.size)
                have bY := HXq.out.below b3
                have y0 := bY.cell 0
                have y1 := bY.cell 1
                have y2 := bY.cell 2
                have y3 := bY.cell 3
                have y4 := bY.cell 4
                have y5 := bY.cell 5
                have y6 := bY.cell 6
                have y7 := bY.cell 7
                have y8 := bY.cell 8
                have y9 := bY.cell 9
                simp only [List.getElem?_toArray, List.getElem?_cons_zero, List.getElem?_cons_succ] at y0 y1 y2 y3 y4 y5 y6 y7 y8 y9
                have f0 := bY.frozen 0
                have f1 := bY.frozen 1
                have f2 := bY.frozen 2
                have f3 := bY.frozen 3
                have f4 := bY.frozen 4
                have f5 := bY.frozen 5
                have f6 := bY.frozen 6
                have f7 := bY.frozen 7
                have f8 := bY.frozen 8
                have f9 := bY.frozen 9
                clear bY b3
                unfold wrongC
                go_wp2_with fail
                unfold GotPost
                rw [HQ.out]
                refine bodyPost_ret ?_ rfl ⟨rfl, ?_⟩
                · simp [results, Tryz.results41, go_sem, wrongC, y0, y1, y2, y3, y4, y5, y6, y7, y8, y9]
                · exact (((((((((hb3.setCell (Nat.le_refl _) _).setCell (Nat.le_refl _) _).setCell (Nat.le_refl _) _).setCell (Nat.le_refl _) _).setCell (Nat.le_refl _) _).setCell (Nat.le_refl _) _).setCell (Nat.le_refl _) _).setCell (Nat.le_refl _) _).setCell (Nat.le_refl _) _).setCell (Nat.le_refl _) _
              · have HQ := Lib.hid (got_ok (at0 := at0) (show octR (s.data.toList.drop at0) = (⟨3, [], 5, 0, B⟩, 3 + ds.length, 0) by
                  unfold octR octN
                  rw [HD2.out, HRn.out, if_neg HG.out.2, if_neg hno, if_neg (by omega), ← HBv.out]))
                have h1i : ¬ (1000 : Int) < (B.length : Int) := by omega
                rw [HJ.out] at HQ
                clear hno h1000 hql hBn hkl
                have bY := HXq.out
                have y0 := bY.cell 0
                have y1 := bY.cell 1
                have y2 := bY.cell 2
                have y3 := bY.cell 3
                have y4 := bY.cell 4
                have y5 := bY.cell 5
                have y6 := bY.cell 6
                have y7 := bY.cell 7
                have y8 := bY.cell 8
                have y9 := bY.cell 9
                simp only [List.getElem?_toArray, List.getElem?_cons_zero, List.getElem?_cons_succ] at y0 y1 y2 y3 y4 y5 y6 y7 y8 y9
                have f0 := bY.frozen 0
                have f1 := bY.frozen 1
                have f2 := bY.frozen 2
                have f3 := bY.frozen 3
                have f4 := bY.frozen 4
                have f5 := bY.frozen 5
                have f6 := bY.frozen 6
                have f7 := bY.frozen 7
                have f8 := bY.frozen 8
                have f9 := bY.frozen 9
                clear bY
                go_wp2_with fail
                unfold GotPost
                rw [HQ.out]
                refine bodyPost_ret ?_ rfl ⟨rfl, ?_⟩
                · simp [results, Tryz.results41, go_sem, gotC, y0, y1, y2, y3, y4, y5, y6, y7, y8, y9]
                · exact (((((((((hbw.setCell (Nat.le_refl _) _).setCell (Nat.le_refl _) _).setCell (Nat.le_refl _) _).setCell (Nat.le_refl _) _).setCell (Nat.le_refl _) _).setCell (Nat.le_refl _) _).setCell (Nat.le_refl _) _).setCell (Nat.le_refl _) _).setCell (Nat.le_refl _) _).setCell (Nat.le_refl _) _
      · have h39b : ((c : Int) == 39) = false := by simp; omega
        cases hh : hexB x with
        | true =>
          have HN : Hid (runN hexB (s.data.toList.drop (at0 + 2)) = (ds ++ [nibV x]).length + runN hexB (s.data.toList.drop (j + 1))) := by
            have h1 := HRu.out
            rw [HD.out, runN_cons, if_pos hh] at h1
            unfold Hid; rw [List.length_append]; simp only [List.length_cons, List.length_nil]; omega
          have HDs2 : Hid (ds ++ [nibV x] = ((s.data.toList.drop (at0 + 2)).take (ds ++ [nibV x]).length).map nibV) := by
            unfold Hid
            rw [List.length_append]
            show _ = ((s.data.toList.drop (at0 + 2)).take (ds.length + 1)).map nibV
            have hj2 : ds.length < (s.data.toList.drop (at0 + 2)).length := by rw [List.length_drop, size_list]; have := HTo.out; omega
            have h1 := HG.out.1
            rw [List.getD_eq_getElem?_getD, List.getElem?_eq_getElem hj2] at h1
            have h1' : (s.data.toList.drop (at0 + 2))[ds.length] = x := h1
            rw [List.take_succ_eq_append_getElem hj2, List.map_append, ← HDs.out, h1']; rfl
          have HT2 : Hid (j + 1 = at0 + 2 + (ds ++ [nibV x]).length) := by have := HTo.out; unfold Hid; rw [List.length_append]; simp only [List.length_cons, List.length_nil]; omega
          have hnb := nib_le x hh
          have hdn : ds.length + 1 ≤ 4000 := by have := HTo.out; omega
          have hR : (if hexB x = true then (nibV x : Int) else -1) = (nibV x : Int) := if_pos hh
          have HR := Lib.hid hR
          generalize nibV x = nv at *
          have hnv : ¬ (nv : Int) < 0 := by omega
          clear hR hh h39 HXc
          go_wp2_with fail
          refine (HSx.out _).mono ?_
          rintro e w2 ⟨rfl, rfl⟩
          rw [HR.out]
          have HO2 := Lib.hid (HO.out.alloc (.cells #[.int .i64 (nv : Int)] 3))
          have HW := Lib.hid (valN_new w2 nv w2.heap.size rfl)
          have hX2' := HX.out.alloc (.cells #[.int .i64 (nv : Int)] 3)
          have hb2 := hb.alloc hb.size (.cells #[.int .i64 (nv : Int)] 3)
          have HBS := Lib.hid (show w.heap.size + 1 ≤ (w2.alloc (.cells #[.int .i64 (nv : Int)] 3)).heap.size by rw [World.size_alloc]; omega)
          have HAl := Lib.hid (show ds.length + [nv].length ≤ 4001 by simp; omega)
          have HA2 := Lib.hid (show 4001 ≤ maxLen by decide)
          clear HO HX hb
          go_wp2_with (at_builtin; refine wpList_append_g encN_len (by decide) 35 3 i0 _ 8 Tryz.underlying35 hi hz0 hz1 hz2 rfl _ rfl _ _ rfl (w.heap.size + 1) _ _ ds [nv] rfl rfl HO2.out HW.out (one_n nv) (Nat.le_trans HAl.out HA2.out) (by have := HAl.out; omega) HBS.out ?_; intro v' w' ho hgw)
          have hbg := OwnG.grown HO2.out HBS.out hgw
          have hX3 : Blk w' w.heap.size #[.int .i64 0, .string ⟨#[]⟩, .int .i64 0, .int .i64 0, .string ⟨#[]⟩, .int .i64 0, .int .i64 0, .int .i64 0, .int .i64 0, .bool false] 48 := by
            unfold Blk; rw [hbg.block _ (by omega)]; exact hX2'
          exact ⟨⟨j + 1, ds ++ [nv], by go_num, by omega, hb2.trans (hbg.mono (by omega)), hX3, ho, by rw [List.length_append]; exact hdn, Nat.le_trans HBS.out hgw.size, HT2, HDs2, HN⟩, by simp [intOf]; omega⟩
        | false =>
          have HQ := Lib.hid (got_bad (at0 := at0) (show octR (s.data.toList.drop at0) = (Tok.zero, 0, 42) by
            have hrun : runN hexB (s.data.toList.drop (at0 + 2)) = ds.length := by
              have h1 := HRu.out
              rw [HD.out, runN_cons, if_neg (by rw [hh]; simp)] at h1; omega
            have hx39 : x ≠ 39 := fun e => h39 (by rw [← HXc.out, e]; rfl)
            unfold octR octN
            rw [HD2.out, hrun, if_neg HG.out.2, HG.out.1, if_pos (.inl hx39)]) (by decide))
          have HR := Lib.hid (show (if hexB x = true then (nibV x : Int) else -1) = -1 by rw [hh]; rfl)
          clear hh h39 HXc
          go_wp2_with fail
          refine (HSx.out _).mono ?_
          rintro e w2 ⟨rfl, rfl⟩
          rw [HR.out]
          go_wp2_with fail
          refine (wrong_any _ _ _).mono ?_
          rintro e w3 ⟨rfl, b3⟩
          have hb3 := hb.trans (b3.mono hb.size)
          have bY := HX.out.below b3
          have y0 := bY.cell 0
          have y1 := bY.cell 1
          have y2 := bY.cell 2
          have y3 := bY.cell 3
          have y4 := bY.cell 4
          have y5 := bY.cell 5
          have y6 := bY.cell 6
          have y7 := bY.cell 7
          have y8 := bY.cell 8
          have y9 := bY.cell 9
          simp only [List.getElem?_toArray, List.getElem?_cons_zero, List.getElem?_cons_succ] at y0 y1 y2 y3 y4 y5 y6 y7 y8 y9
          have f0 := bY.frozen 0
          have f1 := bY.frozen 1
          have f2 := bY.frozen 2
          have f3 := bY.frozen 3
          have f4 := bY.frozen 4
          have f5 := bY.frozen 5
          have f6 := bY.frozen 6
          have f7 := bY.frozen 7
          have f8 := bY.frozen 8
          have f9 := bY.frozen 9
          clear bY b3
          unfold wrongC
          go_wp2_with fail
          unfold GotPost
          rw [HQ.out]
          refine bodyPost_ret ?_ rfl ⟨rfl, ?_⟩
          · simp [results, Tryz.results41, go_sem, wrongC, y0, y1, y2, y3, y4, y5, y6, y7, y8, y9]
          · exact (((((((((hb3.setCell (Nat.le_refl _) _).setCell (Nat.le_refl _) _).setCell (Nat.le_refl _) _).setCell (Nat.le_refl _) _).setCell (Nat.le_refl _) _).setCell (Nat.le_refl _) _).setCell (Nat.le_refl _) _).setCell (Nat.le_refl _) _).setCell (Nat.le_refl _) _).setCell (Nat.le_refl _) _
    · obtain rfl : j = s.size := by omega
      have HQ := Lib.hid (got_bad (at0 := at0) (show octR (s.data.toList.drop at0) = (Tok.zero, 0, 41) by
        have hrun : runN hexB (s.data.toList.drop (at0 + 2)) = (s.data.toList.drop (at0 + 2)).length := by
          have h1 := HRu.out
          rw [List.drop_eq_nil_of_le (show s.data.toList.length ≤ s.size by rw [size_list]; exact Nat.le_refl _), runN_nil] at h1
          rw [List.length_drop, size_list]; have := HTo.out; omega
        unfold octR octN
        rw [HD2.out, if_pos hrun]) (by decide))
      go_wp2_with fail
      refine (wrong_any _ _ _).mono ?_
      rintro e w3 ⟨rfl, b3⟩
      have hb3 := hb.trans (b3.mono hb.size)
      have bY := HX.out.below b3
      have y0 := bY.cell 0
      have y1 := bY.cell 1
      have y2 := bY.cell 2
      have y3 := bY.cell 3
      have y4 := bY.cell 4
      have y5 := bY.cell 5
      have y6 := bY.cell 6
      have y7 := bY.cell 7
      have y8 := bY.cell 8
      have y9 := bY.cell 9
      simp only [List.getElem?_toArray, List.getElem?_cons_zero, List.getElem?_cons_succ] at y0 y1 y2 y3 y4 y5 y6 y7 y8 y9
      have f0 := bY.frozen 0
      have f1 := bY.frozen 1
      have f2 := bY.frozen 2
      have f3 := bY.frozen 3
      have f4 := bY.frozen 4
      have f5 := bY.frozen 5
      have f6 := bY.frozen 6
      have f7 := bY.frozen 7
      have f8 := bY.frozen 8
      have f9 := bY.frozen 9
      clear bY b3
      unfold wrongC
      go_wp2_with fail
      unfold GotPost
      rw [HQ.out]
      refine bodyPost_ret ?_ rfl ⟨rfl, ?_⟩
      · simp [results, Tryz.results41, go_sem, wrongC, y0, y1, y2, y3, y4, y5, y6, y7, y8, y9]
      · exact (((((((((hb3.setCell (Nat.le_refl _) _).setCell (Nat.le_refl _) _).setCell (Nat.le_refl _) _).setCell (Nat.le_refl _) _).setCell (Nat.le_refl _) _).setCell (Nat.le_refl _) _).setCell (Nat.le_refl _) _).setCell (Nat.le_refl _) _).setCell (Nat.le_refl _) _).setCell (Nat.le_refl _) _

end Go.Proofs.YtlmjijiepnefdaaGreatDoor
