/-
  The walk of the law RowOwn: it returns true of every row; the tables of unicode/utf8 stand as their initialisers lay them.
-/
import Derived.Test.YtoikbdgbhgokaaaDoorRefCmp
import Derived.Test.YtoikbdgbhgokaaaDoorLaw4
namespace Go.Proofs.YtoikbdgbhgokaaaDoor
open Go.RowKit

theorem cells_set : ∀ (l : List Dat) (k : Nat) (d : Dat), k < l.length → (((l.flatMap cellsD).set (k * 3) (.int .i64 d.k)).set (k * 3 + 1) (.int .i64 d.i)).set (k * 3 + 2) (.string d.s) = (l.set k d).flatMap cellsD
  | [], k, d, h => by simp at h
  | e :: l, 0, d, _ => by simp [cellsD]
  | e :: l, k + 1, d, h => by
    have ih := cells_set l k d (by simp at h; omega)
    have e1 : (k + 1) * 3 = k * 3 + 1 + 1 + 1 := by omega
    rw [List.set_cons_succ, List.flatMap_cons, List.flatMap_cons, ← ih, e1]
    simp [cellsD]

/-- A value stored into a row of the call's own. -/
theorem OwnD.put {w : World} {base g n cap k : Nat} {l : List Dat} (h : OwnD w base (.slice (some ⟨g, 0, none⟩) n cap) l) (hn : l.length = n) (hk : k < l.length) (d : Dat) :
    OwnD (((w.setCell ⟨g, k * 3, none⟩ (.int .i64 d.k)).setCell ⟨g, k * 3 + 1, none⟩ (.int .i64 d.i)).setCell ⟨g, k * 3 + 2, none⟩ (.string d.s)) base (.slice (some ⟨g, 0, none⟩) n cap) (l.set k d) := by
  subst hn
  have h3 := (World.ownsRow.stored (World.ownsRow.stored (World.ownsRow.stored h (k * 3) (.int .i64 d.k)).1 (k * 3 + 1) (.int .i64 d.i)).1 (k * 3 + 2) (.string d.s)).1
  rw [cells_set l k d hk] at h3
  unfold OwnD
  rw [List.length_set]
  exact h3

theorem grown_set {a w : World} {g : Nat} (h : a.grownBy w (some g)) (o : Nat) (u : Value) : a.grownBy (w.setCell ⟨g, o, none⟩ u) (some g) :=
  ⟨h.os, h.tape, h.output, by simpa [World.setCell] using h.size, fun i hi hne => (Below.heap_setCell w ⟨g, o, none⟩ u i (by rintro rfl; exact hne rfl)).trans (h.block i hi hne)⟩

theorem OwnD.kept {w w' : World} {base : Nat} {v : Value} {l : List Dat} {row : Option Nat} (h : OwnD w base v l) (hg : w.grownBy w' row) (hne : v.ownBlock = none ∨ v.ownBlock ≠ row) : OwnD w' base v l := World.ownsRow.kept h hg hne

set_option maxRecDepth 100000 in
set_option maxHeartbeats 4000000 in
theorem own_core (v1 : Value) (S1 : ByteArray) (l : List Dat) (w : World) (hl : l.length ≤ 1000)
    (HF : Hid (∀ W, Below w.heap.size w W → Calls Tryd.prog 16 #[v1] W fun e w' => e = .returned (.tuple #[.string S1, .int .i64 0]) ∧ Below W.heap.size W w'))
    (HD : Hid (∀ W, Below w.heap.size w W → Calls Tryd.prog 17 #[.string S1] W (DecPost (some l) W)))
    (HV1 : Hid (∃ A c, v1 = .slice A l.length c)) (HR : Hid (RowV w v1 l)) :
    Calls Tryd.prog 8 #[v1] w fun e w' => e = .returned (.bool true) ∧ Below w.heap.size w w' := by
  obtain ⟨A1, c1, rfl⟩ := HV1.out
  go_enter Tryd.func8, Tryd.ntmps8
  go_wp2_with fail
  refine (HF.out _ (Below.refl _ _)).mono ?_
  rintro e w1 ⟨rfl, hb1⟩
  go_wp2_with fail
  refine (HD.out _ hb1).mono ?_
  rintro e w2 ⟨hb2, va, rfl, hoa⟩
  have hc2 := hb1.trans (hb2.mono hb1.size)
  go_wp2_with fail
  refine (HD.out _ hc2).mono ?_
  rintro e w3 ⟨hb3, vb, rfl, hob⟩
  have hc3 := hc2.trans (hb3.mono hc2.size)
  have hoa3 : OwnD w3 w1.heap.size va l := hoa.below hb3
  obtain ⟨Aa, ca, rfl⟩ := hoa.shape
  obtain ⟨Ab, cb, rfl⟩ := hob.shape
  have hne : ∀ g, Value.ownBlock (.slice Aa l.length ca) = some g → Value.ownBlock (.slice Ab l.length cb) ≠ some g := by
    intro g e1 e2
    have := (hoa.lt g e1).2
    have := (hob.lt g e2).1
    omega
  have HNE := Lib.hid hne
  have hz3 := hc3.size
  have hz1 := hb1.size
  have hz2 := hc2.size
  have hz12 := hb2.size
  clear hne hoa
  go_wp2
  go_loopw [29] (fun i wr => ∃ (k : Nat) (la : List Dat), k ≤ l.length ∧ i = .int .i64 k ∧ Below w.heap.size w wr ∧ w1.heap.size ≤ wr.heap.size ∧ la.length = l.length ∧ OwnD wr w1.heap.size (.slice Aa l.length ca) la ∧ OwnD wr w2.heap.size (.slice Ab l.length cb) l) (fun i _ => l.length - (intOf i).toNat)
  case atStart => exact ⟨0, l, by omega, rfl, hc3, by have := hb3.size; omega, rfl, hoa3, hob⟩
  case round =>
    obtain ⟨k, la, hk, rfl, hb, hsz, hla, ha, hbw⟩ := hrel
    have hz := hb.size
    by_cases hlt : k < l.length
    · have hka : k < la.length := by omega
      rcases ha.2 with ⟨e0, e1⟩ | ⟨g, cap, cur, e0, hbg, hh, hn, _, _, _⟩
      · exfalso; omega
      · injection e0 with e1 e2 e3
        subst e1
        subst e3
        have hd : la[k]? = some la[k] := List.getElem?_eq_getElem hka
        have hrow : RowAt wr g 0 la := by
          rcases ha.row with ⟨e, _⟩ | ⟨b, off, cap', e, _, _, hr⟩
          · cases e
          · injection e with e4 e5 e6
            injection e4 with e4
            injection e4 with e7 e8
            subst e7 e8
            exact hr
        obtain ⟨c0, c1, c2⟩ := hrow k _ hd
        rw [Nat.zero_add] at c0 c1 c2
        revert c0 c1 c2
        clear hd
        generalize la[k] = d0
        intro c0 c1 c2
        have hfr : ∀ j, wr.frozen? ⟨g, j, none⟩ = false := fun j => by
          have ha' := ha
          unfold OwnD at ha'
          rw [hla] at ha'
          exact World.ownsRow.frozenAt ha' j
        have f0 := hfr (k * 3)
        have f1 := hfr (k * 3 + 1)
        have f2 := hfr (k * 3 + 2)
        have hlt1 : g < wr.heap.size := (Array.getElem?_eq_some_iff.mp hh).1
        have ha2 := ha.put hla hka ⟨9, 0, ⟨#[]⟩⟩
        have hg2 := grown_set (grown_set (grown_set (⟨rfl, rfl, rfl, Nat.le_refl _, fun _ _ _ => rfl⟩ : wr.grownBy wr (some g)) (k * 3) (.int .i64 9)) (k * 3 + 1) (.int .i64 0)) (k * 3 + 2) (.string ⟨#[]⟩)
        have hb4 := hbw.kept hg2 (.inr (HNE.out g rfl))
        have HA2 := Lib.hid ha2
        have HB4 := Lib.hid hb4
        have HLA := Lib.hid hla
        clear hfr hrow ha2 hb4 hg2 hh ha hbw hla hka e2
        go_wp2
        go_roundw
        case rel => exact ⟨k + 1, _, by omega, by go_num, ((hb.setCell (by simp; omega) _).setCell (by simp; omega) _).setCell (by simp; omega) _, by simpa using hsz, by rw [List.length_set]; exact HLA.out, HA2.out, HB4.out⟩
        case measure => simp [intOf]; omega
    · obtain rfl : k = l.length := by omega
      have HLA := Lib.hid hla
      have HA : Hid (OwnD (wr.alloc (.cells #[.int .i64 8, .int .i64 0, .string ⟨#[]⟩] 37)) w1.heap.size (.slice Aa l.length ca) la) := ha.alloc _
      have HRV : Hid (RowV (wr.alloc (.cells #[.int .i64 8, .int .i64 0, .string ⟨#[]⟩] 37)) (.slice (some ⟨wr.heap.size, 0, none⟩) 1 1) [⟨8, 0, ⟨#[]⟩⟩]) := rowV_lit wr ⟨8, 0, ⟨#[]⟩⟩ _ rfl
      have HB := Lib.hid (hbw.alloc (.cells #[.int .i64 8, .int .i64 0, .string ⟨#[]⟩] 37))
      clear ha hbw hla
      go_wp2_with (at_builtin; refine wpList_append_dats _ rfl (.tmp 37) (.tmp 39) rfl w1.heap.size _ _ la [⟨8, 0, ⟨#[]⟩⟩] rfl rfl HA.out HRV.out (by have := HLA.out; simp <;> omega) (by simp <;> omega) ?_)
      intro v5 w5 ho5 hg5
      have hb5 := Below.trans (hb.alloc hz (.cells #[.int .i64 8, .int .i64 0, .string ⟨#[]⟩] 37)) ((ownD_below HA.out (by simp <;> omega) hg5).mono (by omega))
      have hB5 : OwnD w5 w2.heap.size (.slice Ab l.length cb) l := by
        refine HB.out.kept hg5 ?_
        cases hq : Value.ownBlock (.slice Aa l.length ca) with
        | none =>
          cases hp : Value.ownBlock (.slice Ab l.length cb) with
          | none => exact .inl rfl
          | some y => exact .inr (by simp)
        | some x => exact .inr (HNE.out x hq)
      have HS : Hid (Calls Tryd.prog 19 #[.slice Ab l.length cb, .slice A1 l.length c1] w5 (RightPost true w5)) := refSame_row _ _ l w5 hB5.row (HR.out.below hb5)
      obtain ⟨A5, k5, hv5⟩ := ho5.shape
      have hlen5 : (la ++ [(⟨8, 0, ⟨#[]⟩⟩ : Dat)]).length = l.length + 1 := by have := HLA.out; simp; exact this
      rw [hlen5] at hv5
      subst hv5
      clear hg5 hB5 ho5 hlen5
      go_wp2_with (go_at_call 19; refine HS.out.mono ?_; rintro e w6 ⟨rfl, hb6⟩)
      go_ret
      exact ⟨by simp, hb5.trans (hb6.mono hb5.size)⟩
set_option maxRecDepth 100000 in
set_option maxHeartbeats 4000000 in
theorem own_no (v1 : Value) (S1 : ByteArray) (E : Int) (w : World) (hE : (E == 0) = false)
    (HF : Hid (Calls Tryd.prog 16 #[v1] w fun e w' => e = .returned (.tuple #[.string S1, .int .i64 E]) ∧ Below w.heap.size w w')) :
    Calls Tryd.prog 8 #[v1] w fun e w' => e = .returned (.bool true) ∧ Below w.heap.size w w' := by
  have hE' : (E != 0) = true := by simpa using hE
  go_enter Tryd.func8, Tryd.ntmps8
  go_wp2_with (go_at_call 16; refine HF.out.mono ?_; rintro e w1 ⟨rfl, hb1⟩)
  go_ret
  exact ⟨rfl, hb1⟩

theorem rowOwn_any (v1 : Value) (l1 : List Dat) (w : World) (r1 : RowV w v1 l1) (i1 : ∀ d ∈ l1, InI d) (hT : Tabs w) :
    Calls Tryd.prog 8 #[v1] w fun e w' => e = .returned (.bool true) ∧ Below w.heap.size w w' := by
  by_cases h1 : encE l1 = 0
  · have a1 := encE_zero l1 h1
    have hlen := encE_len2 l1 h1
    have hd := decR_enc l1 1000 (fun d hd => ⟨a1 d hd, i1 d hd⟩) hlen
    have hb2 := encR_length l1 a1
    have hS : encS l1 = encR l1 := by unfold encS; rw [if_pos h1]
    refine own_core v1 ⟨(encS l1).toArray⟩ l1 w hlen (Lib.hid fun W hb => ?_) (Lib.hid fun W hb => ?_) ?_ (Lib.hid r1)
    · have := refEncode_any v1 l1 W (r1.below hb) i1
      unfold EncPost at this
      rw [h1] at this
      exact this
    · have hsz : (⟨(encS l1).toArray⟩ : ByteArray).size ≤ 140737488355328 := by
        show (encS l1).toArray.size ≤ _
        rw [List.size_toArray, hS]
        omega
      have := decode_any ⟨(encS l1).toArray⟩ W hsz (hT.below hb)
      rw [show (⟨(encS l1).toArray⟩ : ByteArray).data.toList = encR l1 by rw [hS], hd] at this
      exact this
    · rcases r1 with ⟨rfl, rfl⟩ | ⟨b, off, cap, rfl, _⟩
      · exact ⟨none, 0, rfl⟩
      · exact ⟨_, _, rfl⟩
  · exact own_no v1 _ (encE l1) w (by simpa using h1) (refEncode_any v1 l1 w r1 i1)

end Go.Proofs.YtoikbdgbhgokaaaDoor
