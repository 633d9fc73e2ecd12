/-
  The contract of row's Compare: the order of two rows, by the first place at which they are not the same; it makes memory of its own alone.
-/
import Derived.Test.YtoikbdgbhgokaaaDoorCmp
import Derived.Test.YtoikbdgbhgokaaaDoorCells
import Derived.Test.YtoikbdgbhgokaaaDoorFrame
namespace Go.Proofs.YtoikbdgbhgokaaaDoor
open Go.RowKit

/-- A call answers n and makes memory of its own alone. -/
def IntPost (n : Int) (w : World) (e : Ending) (w' : World) : Prop := e = .returned (.int .i64 n) ∧ Below w.heap.size w w'

theorem cmpR_step (a b : List Dat) (k : Nat) (ha : k < a.length) (hb : k < b.length) : cmpR (a.drop k) (b.drop k) = if cmpD a[k] b[k] = 0 then cmpR (a.drop (k + 1)) (b.drop (k + 1)) else cmpD a[k] b[k] := by
  rw [List.drop_eq_getElem_cons ha, List.drop_eq_getElem_cons hb, cmpR]
theorem cmpR_long (a b : List Dat) (k : Nat) (ha : k < a.length) (hb : b.length ≤ k) : cmpR (a.drop k) (b.drop k) = 1 := by
  rw [List.drop_eq_getElem_cons ha, List.drop_eq_nil_of_le hb, cmpR]
theorem cmpR_end (a b : List Dat) (k : Nat) (ha : a.length ≤ k) : cmpR (a.drop k) (b.drop k) = if k < b.length then -1 else 0 := by
  rw [List.drop_eq_nil_of_le ha]
  split
  · rename_i h; rw [List.drop_eq_getElem_cons h, cmpR]
  · rename_i h; rw [List.drop_eq_nil_of_le (by omega), cmpR]

set_option maxRecDepth 100000 in
set_option maxHeartbeats 4000000 in
theorem compareFunc_any (b1 o1 c1 b2 o2 c2 : Nat) (l1 l2 : List Dat) (A2 : Option Addr) (w : World) (h1 : b1 < w.heap.size) (r1 : RowAt w b1 o1 l1) (m1 : l1.length ≤ maxLen) (m2 : l2.length ≤ maxLen)
    (h2 : l2 = [] ∨ (A2 = some ⟨b2, o2, none⟩ ∧ b2 < w.heap.size ∧ RowAt w b2 o2 l2)) :
    Calls Tryd.prog 20 #[.slice (some ⟨b1, o1, none⟩) l1.length c1, .slice A2 l2.length c2, .func (.func 21) #[] #[]] w (IntPost (cmpR l1 l2) w) := by
  have R1 := Lib.hid r1
  have H2 := Lib.hid h2
  clear r1 h2
  unfold maxLen at m1 m2
  go_enter Tryd.func20, Tryd.ntmps20
  go_wp2
  go_loopw [13] (fun i wr => ∃ k : Nat, k ≤ l1.length ∧ i = .int .i64 k ∧ Below w.heap.size w wr ∧ Hid (cmpR (l1.drop k) (l2.drop k) = cmpR l1 l2)) (fun i _ => l1.length - (intOf i).toNat)
  case atStart => exact ⟨0, by omega, rfl, Below.refl _ _, by unfold Hid; rw [List.drop_zero, List.drop_zero]⟩
  case round =>
    obtain ⟨k, hk, rfl, hb, HC⟩ := hrel
    have hz := hb.size
    by_cases hlt : k < l1.length
    · have hd : l1[k]? = some l1[k] := List.getElem?_eq_getElem hlt
      obtain ⟨c0, c1, c2⟩ := R1.out k _ hd
      have cr0 := hb.cell (p := ⟨b1, o1 + k * 3, none⟩) h1
      have cr1 := hb.cell (p := ⟨b1, o1 + k * 3 + 1, none⟩) h1
      have cr2 := hb.cell (p := ⟨b1, o1 + k * 3 + 2, none⟩) h1
      rw [c0] at cr0
      rw [c1] at cr1
      rw [c2] at cr2
      clear c0 c1 c2 hd
      by_cases hlt2 : k < l2.length
      · have HS := Lib.hid (cmpR_step l1 l2 k hlt hlt2)
        have hd2 : l2[k]? = some l2[k] := List.getElem?_eq_getElem hlt2
        rcases H2.out with rfl | ⟨rfl, hb2, r2⟩
        · simp at hlt2
        obtain ⟨e0, e1, e2⟩ := r2 k _ hd2
        have er0 := hb.cell (p := ⟨b2, o2 + k * 3, none⟩) hb2
        have er1 := hb.cell (p := ⟨b2, o2 + k * 3 + 1, none⟩) hb2
        have er2 := hb.cell (p := ⟨b2, o2 + k * 3 + 2, none⟩) hb2
        rw [e0] at er0
        rw [e1] at er1
        rw [e2] at er2
        clear e0 e1 e2 r2 hd2
        revert cr0 cr1 cr2 er0 er1 er2 HS
        generalize l1[k] = d1
        generalize l2[k] = d2
        obtain ⟨k1, i1, s1⟩ := d1
        obtain ⟨k2, i2, s2⟩ := d2
        intro cr0 cr1 cr2 HS er0 er1 er2
        have hlt0 : b2 < wr.heap.size := by omega
        have fr0 := (World.cell?_alloc_lt wr (.cells #[.int .i64 k1, .int .i64 i1, .string s1] 37) ⟨b2, o2 + k * 3, none⟩ hlt0).trans er0
        have fr1 := (World.cell?_alloc_lt wr (.cells #[.int .i64 k1, .int .i64 i1, .string s1] 37) ⟨b2, o2 + k * 3 + 1, none⟩ hlt0).trans er1
        have fr2 := (World.cell?_alloc_lt wr (.cells #[.int .i64 k1, .int .i64 i1, .string s1] 37) ⟨b2, o2 + k * 3 + 2, none⟩ hlt0).trans er2
        have HX : Hid (∀ W, Calls Tryd.prog 21 #[.agg #[.int .i64 k1, .int .i64 i1, .string s1], .agg #[.int .i64 k2, .int .i64 i2, .string s2]] W (IntPost (cmpD ⟨k1, i1, s1⟩ ⟨k2, i2, s2⟩) W)) := fun W => compare_any k1 i1 s1 k2 i2 s2 W
        revert HX HS
        generalize cmpD ⟨k1, i1, s1⟩ ⟨k2, i2, s2⟩ = X
        intro HS HX
        by_cases hx : X = 0
        · subst hx
          have HC2 : Hid (cmpR (l1.drop (k + 1)) (l2.drop (k + 1)) = cmpR l1 l2) := by
            have := HS.out
            rw [if_pos rfl] at this
            exact this.symm.trans HC.out
          go_wp2_with (go_at_call 21; refine (HX.out _).mono ?_; rintro e w1 ⟨rfl, hb1⟩)
          have hb2' := Below.trans (Below.alloc (Below.alloc hb hz _) (by simp; omega) _) (hb1.mono (by simp; omega))
          go_roundw
          case rel => exact ⟨k + 1, by omega, by go_num, hb2', HC2⟩
          case measure => simp [intOf]; omega
        · have hxb : (X != 0) = true := by simpa using hx
          have hxc : (X == 0) = false := by simpa using hx
          have HC2 : Hid (cmpR l1 l2 = X) := by
            have := HS.out
            rw [if_neg hx] at this
            exact HC.out.symm.trans this
          clear hx
          go_wp2_with (go_at_call 21; refine (HX.out _).mono ?_; rintro e w1 ⟨rfl, hb1⟩)
          go_ret
          exact ⟨by rw [HC2.out]; rfl, Below.trans (Below.alloc (Below.alloc hb hz _) (by simp; omega) _) (hb1.mono (by simp; omega))⟩
      · have HC2 : Hid (cmpR l1 l2 = 1) := HC.out.symm.trans (cmpR_long l1 l2 k hlt (by omega))
        revert cr0 cr1 cr2
        generalize l1[k] = d1
        obtain ⟨k1, i1, s1⟩ := d1
        intro cr0 cr1 cr2
        go_wp2
        go_ret
        exact ⟨by rw [HC2.out]; rfl, Below.alloc hb hz _⟩
    · have HC2 : Hid (cmpR l1 l2 = if k < l2.length then -1 else 0) := HC.out.symm.trans (cmpR_end l1 l2 k (by omega))
      obtain rfl : k = l1.length := by omega
      by_cases hlt2 : l1.length < l2.length
      · have HC3 : Hid (cmpR l1 l2 = -1) := by have := HC2.out; rwa [if_pos hlt2] at this
        clear HC2 HC
        go_wp2
        go_ret
        exact ⟨by rw [HC3.out]; rfl, hb⟩
      · have HC3 : Hid (cmpR l1 l2 = 0) := by have := HC2.out; rwa [if_neg hlt2] at this
        clear HC2 HC
        go_wp2
        go_ret
        exact ⟨by rw [HC3.out]; rfl, hb⟩

set_option maxRecDepth 100000 in
set_option maxHeartbeats 4000000 in
theorem compareFunc_nil (c2 : Nat) (l2 : List Dat) (A2 : Option Addr) (w : World) (m2 : l2.length ≤ maxLen) :
    Calls Tryd.prog 20 #[.slice none 0 0, .slice A2 l2.length c2, .func (.func 21) #[] #[]] w (IntPost (cmpR [] l2) w) := by
  have HE : Hid (cmpR [] l2 = if 0 < l2.length then -1 else 0) := by
    have := cmpR_end [] l2 0 (by simp)
    rwa [List.drop_zero, List.drop_zero] at this
  unfold maxLen at m2
  by_cases hlt2 : 0 < l2.length
  · have HC3 : Hid (cmpR [] l2 = -1) := by have := HE.out; rwa [if_pos hlt2] at this
    clear HE
    have hz : (0 : Int) < l2.length := by omega
    go_enter Tryd.func20, Tryd.ntmps20
    go_wp2
    go_loopw [13] (fun i wr => i = .int .i64 0 ∧ wr = w) (fun _ _ => 0)
    case atStart => exact ⟨rfl, rfl⟩
    case round =>
      obtain ⟨rfl, rfl⟩ := hrel
      go_wp2
      go_ret
      exact ⟨by rw [HC3.out]; rfl, Below.refl _ _⟩
  · have HC3 : Hid (cmpR [] l2 = 0) := by have := HE.out; rwa [if_neg hlt2] at this
    clear HE
    have hz : ¬ (0 : Int) < l2.length := by omega
    go_enter Tryd.func20, Tryd.ntmps20
    go_wp2
    go_loopw [13] (fun i wr => i = .int .i64 0 ∧ wr = w) (fun _ _ => 0)
    case atStart => exact ⟨rfl, rfl⟩
    case round =>
      obtain ⟨rfl, rfl⟩ := hrel
      go_wp2
      go_ret
      exact ⟨by rw [HC3.out]; rfl, Below.refl _ _⟩

theorem compareFunc_row (v1 v2 : Value) (l1 l2 : List Dat) (w : World) (h1 : RowV w v1 l1) (h2 : RowV w v2 l2) :
    Calls Tryd.prog 20 #[v1, v2, .func (.func 21) #[] #[]] w (IntPost (cmpR l1 l2) w) := by
  rcases h1 with ⟨rfl, rfl⟩ | ⟨b1, o1, c1, rfl, m1, hb1, r1⟩
  · rcases h2 with ⟨rfl, rfl⟩ | ⟨b2, o2, c2, rfl, m2, hb2, r2⟩
    · exact compareFunc_nil 0 [] none w (by simp [maxLen])
    · exact compareFunc_nil c2 l2 _ w m2
  · rcases h2 with ⟨rfl, rfl⟩ | ⟨b2, o2, c2, rfl, m2, hb2, r2⟩
    · exact compareFunc_any b1 o1 c1 0 0 0 l1 [] none w hb1 r1 m1 (by simp [maxLen]) (.inl rfl)
    · exact compareFunc_any b1 o1 c1 b2 o2 c2 l1 l2 _ w hb1 r1 m1 m2 (.inr ⟨rfl, hb2, r2⟩)

set_option maxRecDepth 100000 in
theorem rowCompare_any (v1 v2 : Value) (l1 l2 : List Dat) (w : World) (h1 : RowV w v1 l1) (h2 : RowV w v2 l2) :
    Calls Tryd.prog 10 #[v1, v2] w (IntPost (cmpR l1 l2) w) := by
  have H : Hid (Calls Tryd.prog 20 #[v1, v2, .func (.func 21) #[] #[]] w (IntPost (cmpR l1 l2) w)) := compareFunc_row v1 v2 l1 l2 w h1 h2
  clear h1 h2
  go_enter Tryd.func10, Tryd.ntmps10
  go_wp2_with (go_at_call 20; refine H.out.mono ?_; rintro e w1 ⟨rfl, hb1⟩)
  go_ret
  exact ⟨rfl, hb1⟩

end Go.Proofs.YtoikbdgbhgokaaaDoor
