/-
  The law of values' literals, and of names in either letters.
-/
import Derived.Test.YtlmjijiepnefdaaGreatDoorLexQ
import Derived.Test.YtlmjijiepnefdaaGreatDoorLexVaP
import Derived.Test.YtlmjijiepnefdaaGreatDoorRefNm
import Derived.Test.YtlmjijiepnefdaaGreatDoorKept
namespace Go.Proofs.YtlmjijiepnefdaaGreatDoor
open Go.RowKit

/-- Lex of a text of two tokens, or of three. -/
theorem lex_two {W : List UInt8} {x y : Tok × Nat} (h : lexR W = ([x, y], 0, 0)) (hs : W.length ≤ 4000) (w : World) (hV : LexV w) :
    Calls Tryz.prog 7 #[.string ⟨W.toArray⟩] w fun e w' => ∃ g cap, e = .returned (.tuple #[.slice (some ⟨g, 0, none⟩) 2 cap, .int .i64 0, .int .i64 0]) ∧ g < w'.heap.size ∧ 2 ≤ cap ∧ TokAt w' g [x, y] ∧ Below w.heap.size w w' := by
  refine (lex_any ⟨W.toArray⟩ w hs hV).mono ?_
  rintro e w' ⟨⟨v, rfl, ho⟩, b⟩
  have h' : lexR (⟨W.toArray⟩ : ByteArray).data.toList = ([x, y], 0, 0) := h
  rw [h', if_pos rfl] at ho
  rw [h']
  obtain ⟨va, cap, rfl⟩ := ho.slice
  obtain ⟨g, rfl, _, hg, hc, _, hat⟩ := own_at ho (by simp)
  exact ⟨g, cap, rfl, hg, hc, hat, b⟩
theorem lex_three {W : List UInt8} {x y z : Tok × Nat} (h : lexR W = ([x, y, z], 0, 0)) (hs : W.length ≤ 4000) (w : World) (hV : LexV w) :
    Calls Tryz.prog 7 #[.string ⟨W.toArray⟩] w fun e w' => ∃ g cap, e = .returned (.tuple #[.slice (some ⟨g, 0, none⟩) 3 cap, .int .i64 0, .int .i64 0]) ∧ g < w'.heap.size ∧ 3 ≤ cap ∧ TokAt w' g [x, y, z] ∧ Below w.heap.size w w' := by
  refine (lex_any ⟨W.toArray⟩ w hs hV).mono ?_
  rintro e w' ⟨⟨v, rfl, ho⟩, b⟩
  have h' : lexR (⟨W.toArray⟩ : ByteArray).data.toList = ([x, y, z], 0, 0) := h
  rw [h', if_pos rfl] at ho
  rw [h']
  obtain ⟨va, cap, rfl⟩ := ho.slice
  obtain ⟨g, rfl, _, hg, hc, _, hat⟩ := own_at ho (by simp)
  exact ⟨g, cap, rfl, hg, hc, hat, b⟩

set_option maxHeartbeats 4000000 in
set_option maxRecDepth 100000 in
theorem vals_no (k i : Int) (s name : ByteArray) (w : World) (hr : rightD ⟨k, i, s⟩ = false) : Calls Tryz.prog 6 #[.agg #[.int .i64 k, .int .i64 i, .string s], .string name] w (TruePost w) := by
  have HR : Hid (∀ w' : World, Calls Tryz.prog 15 #[.agg #[.int .i64 k, .int .i64 i, .string s]] w' (RightPost (rightD ⟨k, i, s⟩) w')) := fun w' => refRight_any k i s w'
  rw [hr] at HR
  clear hr
  go_enter Tryz.func6, Tryz.ntmps6
  go_wp2_with fail
  refine (HR.out _).mono ?_
  rintro e w1 ⟨rfl, b1⟩
  go_wp2_with fail
  go_ret
  exact ⟨rfl, by first | exact b1 | exact ((Below.refl _ _).alloc (Nat.le_refl _) _).trans (b1.mono ((Below.refl _ _).alloc (Nat.le_refl _) _).size)⟩

theorem case_both : ∀ c : UInt8, Lib.lowerB (Lib.upperB c) = Lib.lowerB c ∧ Lib.upperB (Lib.upperB c) = Lib.upperB c ∧ Lib.upperB (Lib.lowerB c) = Lib.upperB c ∧ nameB (Lib.upperB c) = nameB (Lib.lowerB c) ∧ letterB (Lib.upperB c) = letterB (Lib.lowerB c) := u8_all _ (by decide +kernel)
theorem name_both (l : List UInt8) (h : NameOK (Lib.toLowerA l)) : lexR (Lib.toUpperA l) = ([(⟨1, Lib.toLowerA l, 0, 0, []⟩, 0), (Tok.zero, l.length)], 0, 0) ∧ lexR (Lib.toLowerA l) = ([(⟨1, Lib.toLowerA l, 0, 0, []⟩, 0), (Tok.zero, l.length)], 0, 0) ∧ l.length ≤ 20 := by
  have hlen : l.length ≤ 20 := by have := h.len; unfold Lib.toLowerA at this; rwa [List.length_map] at this
  have e1 : Lib.toLowerA (Lib.toUpperA l) = Lib.toLowerA l := by
    unfold Lib.toLowerA Lib.toUpperA
    rw [List.map_map]
    exact List.map_congr_left fun c _ => (case_both c).1
  have e2 : Lib.toUpperA (Lib.toUpperA l) = Lib.toUpperA (Lib.toLowerA l) := by
    unfold Lib.toLowerA Lib.toUpperA
    rw [List.map_map, List.map_map]
    exact List.map_congr_left fun c _ => (case_both c).2.1.trans (case_both c).2.2.1.symm
  have l1 : (Lib.toUpperA l).length = l.length := by unfold Lib.toUpperA; rw [List.length_map]
  have l2 : (Lib.toLowerA l).length = l.length := by unfold Lib.toLowerA; rw [List.length_map]
  refine ⟨?_, ?_, hlen⟩
  · have := lex_name (Lib.toUpperA l) ⟨?_, by rw [l1]; exact hlen, ?_, ?_, by rw [e2]; exact h.no⟩
    · rw [e1, l1] at this; exact this
    · intro e
      have h0 := congrArg List.length e
      rw [l1, List.length_nil] at h0
      exact h.ne (List.eq_nil_of_length_eq_zero (by rw [l2]; exact h0))
    · have hh := h.head
      cases l with
      | nil => exact absurd rfl h.ne
      | cons c l => exact (case_both c).2.2.2.2.trans hh
    · intro x hx
      unfold Lib.toUpperA at hx
      obtain ⟨y, hy, rfl⟩ := List.mem_map.1 hx
      rw [(case_both y).2.2.2.1]
      exact h.all _ (by unfold Lib.toLowerA; exact List.mem_map.2 ⟨y, hy, rfl⟩)
  · have := lex_name (Lib.toLowerA l) ⟨h.ne, h.len, h.head, h.all, h.no⟩
    rw [h.low, l2] at this
    exact this

set_option maxHeartbeats 4000000 in
set_option maxRecDepth 100000 in
theorem vals_word (k i : Int) (s name : ByteArray) (w : World) (hi : -9223372036854775808 ≤ i ∧ i ≤ 9223372036854775807) (hV : LexV w) (hP : Pow10 w) (hr : rightD ⟨k, i, s⟩ = true) (hk : k ≤ 1) : Calls Tryz.prog 6 #[.agg #[.int .i64 k, .int .i64 i, .string s], .string name] w (TruePost w) := by
  have HR : Hid (∀ w' : World, Calls Tryz.prog 15 #[.agg #[.int .i64 k, .int .i64 i, .string s]] w' (RightPost (rightD ⟨k, i, s⟩) w')) := fun w' => refRight_any k i s w'
  rw [hr] at HR
  obtain ⟨hL, hk01, hsz⟩ := lit_word k i s hr hk
  have HP : Hid (∀ w' : World, Pow10 w' → Calls Tryz.prog 16 #[.agg #[.int .i64 k, .int .i64 i, .string s]] w' (StrPost (litL k i s.data.toList) w')) := fun w' hp => rprint_any k i s w' hi hp hr
  generalize litL k i s.data.toList = W at *
  have HLx := Lib.hid hL
  have HV := Lib.hid hV
  have HPw := Lib.hid hP
  have HSz := Lib.hid hsz
  clear hr hL hV hP hi hsz hk
  rcases hk01 with rfl | rfl
  · go_enter Tryz.func6, Tryz.ntmps6
    go_wp2_with fail
    refine (HR.out _).mono ?_
    rintro e w1 ⟨rfl, b1⟩
    have bX := Blk.below (b := w.heap.size) (t := 31) (Blk.at rfl) b1
    have b0 := (Below.refl w.heap.size w).alloc (Nat.le_refl _) (.cells #[.int .i64 0, .int .i64 i, .string s] 31)
    have hb1 := b0.trans (b1.mono b0.size)
    have x0 := bX.cell 0
    have x1 := bX.cell 1
    have x2 := bX.cell 2
    simp only [List.getElem?_toArray, List.getElem?_cons_zero, List.getElem?_cons_succ] at x0 x1 x2
    clear b0 b1
    go_wp2_with fail
    refine (HP.out _ (HPw.out.below hb1)).mono ?_
    rintro e w2 ⟨rfl, b2⟩
    have bX2 := bX.below b2
    have hb2 := hb1.trans (b2.mono hb1.size)
    clear x0 x1 x2 bX hb1 b2
    have x0 := bX2.cell 0
    have x1 := bX2.cell 1
    have x2 := bX2.cell 2
    simp only [List.getElem?_toArray, List.getElem?_cons_zero, List.getElem?_cons_succ] at x0 x1 x2
    go_wp2_with fail
    refine (lex_two HLx.out HSz.out _ (HV.out.below hb2)).mono ?_
    rintro e w3 ⟨g, cap, rfl, hg, hcap, hat, b3⟩
    have bX3 := bX2.below b3
    have hb3 := hb2.trans (b3.mono hb2.size)
    clear x0 x1 x2 bX2 hb2 b3
    have x0 := bX3.cell 0
    have x1 := bX3.cell 1
    have x2 := bX3.cell 2
    simp only [List.getElem?_toArray, List.getElem?_cons_zero, List.getElem?_cons_succ] at x0 x1 x2
    have d0 : w3.cell? ⟨g, 0, none⟩ = some (.int .i64 2) := hat 0 _ _ rfl 0 _ rfl
    have d1 : w3.cell? ⟨g, 1, none⟩ = some (.string ⟨W.toArray⟩) := hat 0 _ _ rfl 1 _ rfl
    clear hat
    go_wp2_with fail
    go_ret
    exact ⟨rfl, hb3⟩
  · go_enter Tryz.func6, Tryz.ntmps6
    go_wp2_with fail
    refine (HR.out _).mono ?_
    rintro e w1 ⟨rfl, b1⟩
    have bX := Blk.below (b := w.heap.size) (t := 31) (Blk.at rfl) b1
    have b0 := (Below.refl w.heap.size w).alloc (Nat.le_refl _) (.cells #[.int .i64 1, .int .i64 i, .string s] 31)
    have hb1 := b0.trans (b1.mono b0.size)
    have x0 := bX.cell 0
    have x1 := bX.cell 1
    have x2 := bX.cell 2
    simp only [List.getElem?_toArray, List.getElem?_cons_zero, List.getElem?_cons_succ] at x0 x1 x2
    clear b0 b1
    go_wp2_with fail
    refine (HP.out _ (HPw.out.below hb1)).mono ?_
    rintro e w2 ⟨rfl, b2⟩
    have bX2 := bX.below b2
    have hb2 := hb1.trans (b2.mono hb1.size)
    clear x0 x1 x2 bX hb1 b2
    have x0 := bX2.cell 0
    have x1 := bX2.cell 1
    have x2 := bX2.cell 2
    simp only [List.getElem?_toArray, List.getElem?_cons_zero, List.getElem?_cons_succ] at x0 x1 x2
    go_wp2_with fail
    refine (lex_two HLx.out HSz.out _ (HV.out.below hb2)).mono ?_
    rintro e w3 ⟨g, cap, rfl, hg, hcap, hat, b3⟩
    have bX3 := bX2.below b3
    have hb3 := hb2.trans (b3.mono hb2.size)
    clear x0 x1 x2 bX2 hb2 b3
    have x0 := bX3.cell 0
    have x1 := bX3.cell 1
    have x2 := bX3.cell 2
    simp only [List.getElem?_toArray, List.getElem?_cons_zero, List.getElem?_cons_succ] at x0 x1 x2
    have d0 : w3.cell? ⟨g, 0, none⟩ = some (.int .i64 2) := hat 0 _ _ rfl 0 _ rfl
    have d1 : w3.cell? ⟨g, 1, none⟩ = some (.string ⟨W.toArray⟩) := hat 0 _ _ rfl 1 _ rfl
    clear hat
    go_wp2_with fail
    go_ret
    exact ⟨rfl, hb3⟩

set_option maxHeartbeats 4000000 in
set_option maxRecDepth 100000 in
theorem vals_neg (k i : Int) (s name : ByteArray) (w : World) (hi : -9223372036854775808 ≤ i ∧ i ≤ 9223372036854775807) (hV : LexV w) (hP : Pow10 w) (hr : rightD ⟨k, i, s⟩ = true) (hk : k = 2 ∨ k = 3) (hneg : i < 0) : Calls Tryz.prog 6 #[.agg #[.int .i64 k, .int .i64 i, .string s], .string name] w (TruePost w) := by
  have HR : Hid (∀ w' : World, Calls Tryz.prog 15 #[.agg #[.int .i64 k, .int .i64 i, .string s]] w' (RightPost (rightD ⟨k, i, s⟩) w')) := fun w' => refRight_any k i s w'
  rw [hr] at HR
  obtain ⟨⟨n, hL⟩, hs, hsz⟩ := lit_neg k i s hr hk hneg hi.1
  have HP : Hid (∀ w' : World, Pow10 w' → Calls Tryz.prog 16 #[.agg #[.int .i64 k, .int .i64 i, .string s]] w' (StrPost (litL k i s.data.toList) w')) := fun w' hp => rprint_any k i s w' hi hp hr
  generalize litL k i s.data.toList = W at *
  have HLx := Lib.hid hL
  have HV := Lib.hid hV
  have HPw := Lib.hid hP
  have HSz := Lib.hid hsz
  obtain ⟨v, hv⟩ : ∃ v, IntKind.i64.wrap (-i) = v := ⟨_, rfl⟩
  rw [hv] at HLx
  clear hr hL hV hP hsz
  subst hs
  obtain ⟨hi1, hi2⟩ := hi
  rcases hk with rfl | rfl
  · go_enter Tryz.func6, Tryz.ntmps6
    go_wp2_with fail
    refine (HR.out _).mono ?_
    rintro e w1 ⟨rfl, b1⟩
    have bX := Blk.below (b := w.heap.size) (t := 31) (Blk.at rfl) b1
    have b0 := (Below.refl w.heap.size w).alloc (Nat.le_refl _) (.cells #[.int .i64 2, .int .i64 i, .string noText] 31)
    have hb1 := b0.trans (b1.mono b0.size)
    have x0 := bX.cell 0
    have x1 := bX.cell 1
    have x2 := bX.cell 2
    simp only [List.getElem?_toArray, List.getElem?_cons_zero, List.getElem?_cons_succ] at x0 x1 x2
    clear b0 b1
    go_wp2_with fail
    refine (HP.out _ (HPw.out.below hb1)).mono ?_
    rintro e w2 ⟨rfl, b2⟩
    have bX2 := bX.below b2
    have hb2 := hb1.trans (b2.mono hb1.size)
    clear x0 x1 x2 bX hb1 b2
    have x0 := bX2.cell 0
    have x1 := bX2.cell 1
    have x2 := bX2.cell 2
    simp only [List.getElem?_toArray, List.getElem?_cons_zero, List.getElem?_cons_succ] at x0 x1 x2
    go_wp2_with fail
    refine (lex_three HLx.out HSz.out _ (HV.out.below hb2)).mono ?_
    rintro e w3 ⟨g, cap, rfl, hg, hcap, hat, b3⟩
    have bX3 := bX2.below b3
    have hb3 := hb2.trans (b3.mono hb2.size)
    clear x0 x1 x2 bX2 hb2 b3
    have x0 := bX3.cell 0
    have x1 := bX3.cell 1
    have x2 := bX3.cell 2
    simp only [List.getElem?_toArray, List.getElem?_cons_zero, List.getElem?_cons_succ] at x0 x1 x2
    have d1 : w3.cell? ⟨g, 1, none⟩ = some (.string ⟨#[45]⟩) := hat 0 _ _ rfl 1 _ rfl
    have d6 : w3.cell? ⟨g, 6, none⟩ = some (.int .i64 3) := hat 1 _ _ rfl 0 _ rfl
    have d8 : w3.cell? ⟨g, 8, none⟩ = some (.int .i64 2) := hat 1 _ _ rfl 2 _ rfl
    have d9 : w3.cell? ⟨g, 9, none⟩ = some (.int .i64 v) := hat 1 _ _ rfl 3 _ rfl
    have d10 : w3.cell? ⟨g, 10, none⟩ = some (.string ⟨#[]⟩) := hat 1 _ _ rfl 4 _ rfl
    have d12 : w3.cell? ⟨g, 12, none⟩ = some (.int .i64 0) := hat 2 _ _ rfl 0 _ rfl
    have hbw := hb3.trans (((Below.refl w3.heap.size w3).alloc (Nat.le_refl _) (.cells #[.int .i64 2, .int .i64 v, .string noText] 31)).mono hb3.size)
    have hA : ∀ (X : Obj) (o : Nat), (w3.alloc X).cell? ⟨g, o, none⟩ = w3.cell? ⟨g, o, none⟩ := fun X o => ((Below.refl w3.heap.size w3).alloc (Nat.le_refl _) X).cell (p := ⟨g, o, none⟩) hg
    have hX : ∀ (X : Obj) (o : Nat), (w3.alloc X).cell? ⟨w.heap.size, o, none⟩ = w3.cell? ⟨w.heap.size, o, none⟩ := fun X o => ((Below.refl w3.heap.size w3).alloc (Nat.le_refl _) X).cell (p := ⟨w.heap.size, o, none⟩) bX3.lt
    have e1 := fun X => (hA X 1).trans d1
    have e6 := fun X => (hA X 6).trans d6
    have e8 := fun X => (hA X 8).trans d8
    have e9 := fun X => (hA X 9).trans d9
    have e10 := fun X => (hA X 10).trans d10
    have e12 := fun X => (hA X 12).trans d12
    have z0 := fun X => (hX X 0).trans x0
    have z1 := fun X => (hX X 1).trans x1
    have z2 := fun X => (hX X 2).trans x2
    clear hA hX hat
    go_wp2_with fail
    have bW : Blk (w3.alloc (.cells #[.int .i64 2, .int .i64 v, .string noText] 31)) w3.heap.size #[.int .i64 2, .int .i64 v, .string noText] 31 := Blk.new _ _ _
    have q1 := e1 (.cells #[.int .i64 2, .int .i64 v, .string noText] 31)
    have q6 := e6 (.cells #[.int .i64 2, .int .i64 v, .string noText] 31)
    have q8 := e8 (.cells #[.int .i64 2, .int .i64 v, .string noText] 31)
    have q9 := e9 (.cells #[.int .i64 2, .int .i64 v, .string noText] 31)
    have q10 := e10 (.cells #[.int .i64 2, .int .i64 v, .string noText] 31)
    have q12 := e12 (.cells #[.int .i64 2, .int .i64 v, .string noText] 31)
    have g0 := bW.cell 0
    have g1 := bW.cell 1
    have g2 := bW.cell 2
    simp only [List.getElem?_toArray, List.getElem?_cons_zero, List.getElem?_cons_succ] at g0 g1 g2
    clear e1 e6 e8 e9 e10 e12 z0 z1 z2 d1 d6 d8 d9 d10 d12 x0 x1 x2 bX3 hb3 bW
    generalize w3.alloc (.cells #[.int .i64 2, .int .i64 v, .string noText] 31) = w4 at *
    go_quiet (fail)
    have hbq : Below w.heap.size w (w4.drewN nq) := hbw.trans ⟨rfl, rfl, rfl, Nat.le_refl _, fun _ _ => rfl⟩
    generalize w4.drewN nq = w5 at *
    clear q1 q6 q8 q9 q10 q12 g0 g1 g2 hbw
    go_wp2_with fail
    go_ret
    exact ⟨rfl, hbq⟩
  · go_enter Tryz.func6, Tryz.ntmps6
    go_wp2_with fail
    refine (HR.out _).mono ?_
    rintro e w1 ⟨rfl, b1⟩
    have bX := Blk.below (b := w.heap.size) (t := 31) (Blk.at rfl) b1
    have b0 := (Below.refl w.heap.size w).alloc (Nat.le_refl _) (.cells #[.int .i64 3, .int .i64 i, .string noText] 31)
    have hb1 := b0.trans (b1.mono b0.size)
    have x0 := bX.cell 0
    have x1 := bX.cell 1
    have x2 := bX.cell 2
    simp only [List.getElem?_toArray, List.getElem?_cons_zero, List.getElem?_cons_succ] at x0 x1 x2
    clear b0 b1
    go_wp2_with fail
    refine (HP.out _ (HPw.out.below hb1)).mono ?_
    rintro e w2 ⟨rfl, b2⟩
    have bX2 := bX.below b2
    have hb2 := hb1.trans (b2.mono hb1.size)
    clear x0 x1 x2 bX hb1 b2
    have x0 := bX2.cell 0
    have x1 := bX2.cell 1
    have x2 := bX2.cell 2
    simp only [List.getElem?_toArray, List.getElem?_cons_zero, List.getElem?_cons_succ] at x0 x1 x2
    go_wp2_with fail
    refine (lex_three HLx.out HSz.out _ (HV.out.below hb2)).mono ?_
    rintro e w3 ⟨g, cap, rfl, hg, hcap, hat, b3⟩
    have bX3 := bX2.below b3
    have hb3 := hb2.trans (b3.mono hb2.size)
    clear x0 x1 x2 bX2 hb2 b3
    have x0 := bX3.cell 0
    have x1 := bX3.cell 1
    have x2 := bX3.cell 2
    simp only [List.getElem?_toArray, List.getElem?_cons_zero, List.getElem?_cons_succ] at x0 x1 x2
    have d1 : w3.cell? ⟨g, 1, none⟩ = some (.string ⟨#[45]⟩) := hat 0 _ _ rfl 1 _ rfl
    have d6 : w3.cell? ⟨g, 6, none⟩ = some (.int .i64 3) := hat 1 _ _ rfl 0 _ rfl
    have d8 : w3.cell? ⟨g, 8, none⟩ = some (.int .i64 3) := hat 1 _ _ rfl 2 _ rfl
    have d9 : w3.cell? ⟨g, 9, none⟩ = some (.int .i64 v) := hat 1 _ _ rfl 3 _ rfl
    have d10 : w3.cell? ⟨g, 10, none⟩ = some (.string ⟨#[]⟩) := hat 1 _ _ rfl 4 _ rfl
    have d12 : w3.cell? ⟨g, 12, none⟩ = some (.int .i64 0) := hat 2 _ _ rfl 0 _ rfl
    have hbw := hb3.trans (((Below.refl w3.heap.size w3).alloc (Nat.le_refl _) (.cells #[.int .i64 3, .int .i64 v, .string noText] 31)).mono hb3.size)
    have hA : ∀ (X : Obj) (o : Nat), (w3.alloc X).cell? ⟨g, o, none⟩ = w3.cell? ⟨g, o, none⟩ := fun X o => ((Below.refl w3.heap.size w3).alloc (Nat.le_refl _) X).cell (p := ⟨g, o, none⟩) hg
    have hX : ∀ (X : Obj) (o : Nat), (w3.alloc X).cell? ⟨w.heap.size, o, none⟩ = w3.cell? ⟨w.heap.size, o, none⟩ := fun X o => ((Below.refl w3.heap.size w3).alloc (Nat.le_refl _) X).cell (p := ⟨w.heap.size, o, none⟩) bX3.lt
    have e1 := fun X => (hA X 1).trans d1
    have e6 := fun X => (hA X 6).trans d6
    have e8 := fun X => (hA X 8).trans d8
    have e9 := fun X => (hA X 9).trans d9
    have e10 := fun X => (hA X 10).trans d10
    have e12 := fun X => (hA X 12).trans d12
    have z0 := fun X => (hX X 0).trans x0
    have z1 := fun X => (hX X 1).trans x1
    have z2 := fun X => (hX X 2).trans x2
    clear hA hX hat
    go_wp2_with fail
    have bW : Blk (w3.alloc (.cells #[.int .i64 3, .int .i64 v, .string noText] 31)) w3.heap.size #[.int .i64 3, .int .i64 v, .string noText] 31 := Blk.new _ _ _
    have q1 := e1 (.cells #[.int .i64 3, .int .i64 v, .string noText] 31)
    have q6 := e6 (.cells #[.int .i64 3, .int .i64 v, .string noText] 31)
    have q8 := e8 (.cells #[.int .i64 3, .int .i64 v, .string noText] 31)
    have q9 := e9 (.cells #[.int .i64 3, .int .i64 v, .string noText] 31)
    have q10 := e10 (.cells #[.int .i64 3, .int .i64 v, .string noText] 31)
    have q12 := e12 (.cells #[.int .i64 3, .int .i64 v, .string noText] 31)
    have g0 := bW.cell 0
    have g1 := bW.cell 1
    have g2 := bW.cell 2
    simp only [List.getElem?_toArray, List.getElem?_cons_zero, List.getElem?_cons_succ] at g0 g1 g2
    clear e1 e6 e8 e9 e10 e12 z0 z1 z2 d1 d6 d8 d9 d10 d12 x0 x1 x2 bX3 hb3 bW
    generalize w3.alloc (.cells #[.int .i64 3, .int .i64 v, .string noText] 31) = w4 at *
    go_quiet (fail)
    have hbq : Below w.heap.size w (w4.drewN nq) := hbw.trans ⟨rfl, rfl, rfl, Nat.le_refl _, fun _ _ => rfl⟩
    generalize w4.drewN nq = w5 at *
    clear q1 q6 q8 q9 q10 q12 g0 g1 g2 hbw
    go_wp2_with fail
    go_ret
    exact ⟨rfl, hbq⟩

set_option maxHeartbeats 4000000 in
set_option maxRecDepth 100000 in
theorem vals_pos (k i : Int) (s name : ByteArray) (w : World) (hi : -9223372036854775808 ≤ i ∧ i ≤ 9223372036854775807) (hname : name.size ≤ 9223372036854775807) (hV : LexV w) (hP : Pow10 w) (hr : rightD ⟨k, i, s⟩ = true) (hk : 2 ≤ k) (hpos : (k = 2 ∨ k = 3) → 0 ≤ i) : Calls Tryz.prog 6 #[.agg #[.int .i64 k, .int .i64 i, .string s], .string name] w (TruePost w) := by
  have HR : Hid (∀ w' : World, Calls Tryz.prog 15 #[.agg #[.int .i64 k, .int .i64 i, .string s]] w' (RightPost (rightD ⟨k, i, s⟩) w')) := fun w' => refRight_any k i s w'
  rw [hr] at HR
  obtain ⟨⟨n, hL⟩, hk5, hsz⟩ := lit_pos k i s hr hk hpos hi.2
  have HP : Hid (∀ w' : World, Pow10 w' → Calls Tryz.prog 16 #[.agg #[.int .i64 k, .int .i64 i, .string s]] w' (StrPost (litL k i s.data.toList) w')) := fun w' hp => rprint_any k i s w' hi hp hr
  generalize litL k i s.data.toList = W at *
  have HLx := Lib.hid hL
  have HV := Lib.hid hV
  have HPw := Lib.hid hP
  have HSz := Lib.hid hsz
  clear hr hL hV hP hsz
  have hcase : (k = 2 ∧ 0 ≤ i) ∨ (k = 3 ∧ 0 ≤ i) ∨ k = 4 ∨ k = 5 := by
    have h23 : (k = 2 ∨ k = 3) ∨ k = 4 ∨ k = 5 := by omega
    rcases h23 with (h | h) | h | h
    · exact .inl ⟨h, hpos (.inl h)⟩
    · exact .inr (.inl ⟨h, hpos (.inr h)⟩)
    · exact .inr (.inr (.inl h))
    · exact .inr (.inr (.inr h))
  clear hpos hk hk5
  obtain ⟨hi1, hi2⟩ := hi
  rcases hcase with ⟨rfl, h0⟩ | ⟨rfl, h0⟩ | rfl | rfl
  · go_enter Tryz.func6, Tryz.ntmps6
    go_wp2_with fail
    refine (HR.out _).mono ?_
    rintro e w1 ⟨rfl, b1⟩
    have bX := Blk.below (b := w.heap.size) (t := 31) (Blk.at rfl) b1
    have b0 := (Below.refl w.heap.size w).alloc (Nat.le_refl _) (.cells #[.int .i64 2, .int .i64 i, .string s] 31)
    have hb1 := b0.trans (b1.mono b0.size)
    have x0 := bX.cell 0
    have x1 := bX.cell 1
    have x2 := bX.cell 2
    simp only [List.getElem?_toArray, List.getElem?_cons_zero, List.getElem?_cons_succ] at x0 x1 x2
    clear b0 b1
    go_wp2_with fail
    refine (HP.out _ (HPw.out.below hb1)).mono ?_
    rintro e w2 ⟨rfl, b2⟩
    have bX2 := bX.below b2
    have hb2 := hb1.trans (b2.mono hb1.size)
    clear x0 x1 x2 bX hb1 b2
    have x0 := bX2.cell 0
    have x1 := bX2.cell 1
    have x2 := bX2.cell 2
    simp only [List.getElem?_toArray, List.getElem?_cons_zero, List.getElem?_cons_succ] at x0 x1 x2
    go_wp2_with fail
    refine (lex_two HLx.out HSz.out _ (HV.out.below hb2)).mono ?_
    rintro e w3 ⟨g, cap, rfl, hg, hcap, hat, b3⟩
    have bX3 := bX2.below b3
    have hb3 := hb2.trans (b3.mono hb2.size)
    clear x0 x1 x2 bX2 hb2 b3
    have x0 := bX3.cell 0
    have x1 := bX3.cell 1
    have x2 := bX3.cell 2
    simp only [List.getElem?_toArray, List.getElem?_cons_zero, List.getElem?_cons_succ] at x0 x1 x2
    have d0 : w3.cell? ⟨g, 0, none⟩ = some (.int .i64 3) := hat 0 _ _ rfl 0 _ rfl
    have d2 : w3.cell? ⟨g, 2, none⟩ = some (.int .i64 2) := hat 0 _ _ rfl 2 _ rfl
    have d3 : w3.cell? ⟨g, 3, none⟩ = some (.int .i64 i) := hat 0 _ _ rfl 3 _ rfl
    have d4 : w3.cell? ⟨g, 4, none⟩ = some (.string s) := hat 0 _ _ rfl 4 _ rfl
    clear hat
    go_wp2_with fail
    go_quiet (fail)
    have hbq : Below w.heap.size w (w3.drewN nq) := hb3.trans ⟨rfl, rfl, rfl, Nat.le_refl _, fun _ _ => rfl⟩
    generalize w3.drewN nq = w3q at *
    clear hb3
    go_wp2_with fail
    refine (refLower_any name _ hname).mono ?_
    rintro e w4 ⟨rfl, b4⟩
    have hb4 := hbq.trans (b4.mono hbq.size)
    clear x0 x1 x2 bX3 hbq b4 d0 d2 d3 d4
    go_wp2_with fail
    refine (refName_any _ _).mono ?_
    rintro e w5 ⟨b, rfl, hN, b5⟩
    have hb5 := hb4.trans (b5.mono hb4.size)
    clear hb4 b5
    cases b with
    | false =>
      go_wp2_with fail
      go_ret
      exact ⟨rfl, hb5⟩
    | true =>
      obtain ⟨hn1, hn2, hn3⟩ := name_both _ (hN rfl)
      have HN1 := Lib.hid hn1
      have HN2 := Lib.hid hn2
      have HU : Hid ((Lib.toUpperA name.data.toList).length ≤ 4000) := by unfold Hid Lib.toUpperA; rw [List.length_map]; omega
      have HLo : Hid ((Lib.toLowerA name.data.toList).length ≤ 4000) := by unfold Hid Lib.toLowerA; rw [List.length_map]; omega
      clear hN hn1 hn2 hn3
      go_wp2_with fail
      refine (refUpper_any name _ hname).mono ?_
      rintro e w6 ⟨rfl, b6⟩
      have hb6 := hb5.trans (b6.mono hb5.size)
      clear hb5 b6
      go_wp2_with fail
      refine (lex_two HN1.out HU.out _ (HV.out.below hb6)).mono ?_
      rintro e w7 ⟨ga, capa, rfl, hga, hca, hata, b7⟩
      have hb7 := hb6.trans (b7.mono hb6.size)
      have HAt := Lib.hid hata
      clear hb6 b7 hata
      go_wp2_with fail
      refine (refLower_any name _ hname).mono ?_
      rintro e w8 ⟨rfl, b8⟩
      have hb8 := hb7.trans (b8.mono hb7.size)
      go_wp2_with fail
      refine (lex_two HN2.out HLo.out _ (HV.out.below hb8)).mono ?_
      rintro e w9 ⟨gb, capb, rfl, hgb, hcb, hatb, b9⟩
      have hb9 := hb8.trans (b9.mono hb8.size)
      have hba := b8.trans (b9.mono b8.size)
      have hata9 := HAt.out.below hga hba
      have hga9 : ga < w9.heap.size := Nat.lt_of_lt_of_le hga hba.size
      have m0 : w9.cell? ⟨ga, 0, none⟩ = some (.int .i64 1) := hata9 0 _ _ rfl 0 _ rfl
      have m1 : w9.cell? ⟨ga, 1, none⟩ = some (.string ⟨(Lib.toLowerA name.data.toList).toArray⟩) := hata9 0 _ _ rfl 1 _ rfl
      have HAt9 := Lib.hid hata9
      have HBt9 := Lib.hid hatb
      have HSame : Hid (∀ n : Kept w9, Calls Tryz.prog 9 #[.slice (some ⟨ga, 0, none⟩) 2 capa, .slice (some ⟨gb, 0, none⟩) 2 capb, .bool true] n.w fun e w' => e = .returned (.bool true) ∧ Below n.w.heap.size n.w w') := fun n =>
        same_some true [(⟨1, Lib.toLowerA name.data.toList, 0, 0, []⟩, 0), (Tok.zero, name.data.toList.length)] [(⟨1, Lib.toLowerA name.data.toList, 0, 0, []⟩, 0), (Tok.zero, name.data.toList.length)] ga gb capa capb n.w
          (Nat.lt_of_lt_of_le hga9 n.h.size) (Nat.lt_of_lt_of_le hgb n.h.size) (HAt9.out.below hga9 n.h) (HBt9.out.below hgb n.h) (by simp) rfl (fun _ => rfl)
      have HLow : Hid (∀ n : Kept w9, Calls Tryz.prog 18 #[.string name] n.w fun e w' => e = .returned (.string ⟨(Lib.toLowerA name.data.toList).toArray⟩) ∧ Below n.w.heap.size n.w w') := fun n => refLower_any name n.w hname
      have k0 := fun n : Kept w9 => n.cell m0
      have k1 := fun n : Kept w9 => n.cell m1
      clear hb7 hb8 b8 b9 hba hata9 hatb HAt hga HN1 HN2 HU HLo m0 m1 HAt9 HBt9 hga9 hgb
      go_wp2_with fail
      refine wp_region_kept (by kernel_rfl) (by kernel_rfl) ?_
      repeat (go_big_quiet_step ((first
        | (go_at_call 18; exact Calls.kept (HLow.out _))
        | (go_at_call 9; exact Calls.kept (HSame.out _)))))
      refine wpQuiet_nil ?_
      intro _ hw'
      obtain ⟨nk, hw''⟩ := hw'
      subst hw''
      go_wp2
      go_ret
      exact ⟨rfl, hb9.trans (nk.h.mono hb9.size)⟩
  · go_enter Tryz.func6, Tryz.ntmps6
    go_wp2_with fail
    refine (HR.out _).mono ?_
    rintro e w1 ⟨rfl, b1⟩
    have bX := Blk.below (b := w.heap.size) (t := 31) (Blk.at rfl) b1
    have b0 := (Below.refl w.heap.size w).alloc (Nat.le_refl _) (.cells #[.int .i64 3, .int .i64 i, .string s] 31)
    have hb1 := b0.trans (b1.mono b0.size)
    have x0 := bX.cell 0
    have x1 := bX.cell 1
    have x2 := bX.cell 2
    simp only [List.getElem?_toArray, List.getElem?_cons_zero, List.getElem?_cons_succ] at x0 x1 x2
    clear b0 b1
    go_wp2_with fail
    refine (HP.out _ (HPw.out.below hb1)).mono ?_
    rintro e w2 ⟨rfl, b2⟩
    have bX2 := bX.below b2
    have hb2 := hb1.trans (b2.mono hb1.size)
    clear x0 x1 x2 bX hb1 b2
    have x0 := bX2.cell 0
    have x1 := bX2.cell 1
    have x2 := bX2.cell 2
    simp only [List.getElem?_toArray, List.getElem?_cons_zero, List.getElem?_cons_succ] at x0 x1 x2
    go_wp2_with fail
    refine (lex_two HLx.out HSz.out _ (HV.out.below hb2)).mono ?_
    rintro e w3 ⟨g, cap, rfl, hg, hcap, hat, b3⟩
    have bX3 := bX2.below b3
    have hb3 := hb2.trans (b3.mono hb2.size)
    clear x0 x1 x2 bX2 hb2 b3
    have x0 := bX3.cell 0
    have x1 := bX3.cell 1
    have x2 := bX3.cell 2
    simp only [List.getElem?_toArray, List.getElem?_cons_zero, List.getElem?_cons_succ] at x0 x1 x2
    have d0 : w3.cell? ⟨g, 0, none⟩ = some (.int .i64 3) := hat 0 _ _ rfl 0 _ rfl
    have d2 : w3.cell? ⟨g, 2, none⟩ = some (.int .i64 3) := hat 0 _ _ rfl 2 _ rfl
    have d3 : w3.cell? ⟨g, 3, none⟩ = some (.int .i64 i) := hat 0 _ _ rfl 3 _ rfl
    have d4 : w3.cell? ⟨g, 4, none⟩ = some (.string s) := hat 0 _ _ rfl 4 _ rfl
    clear hat
    go_wp2_with fail
    go_quiet (fail)
    have hbq : Below w.heap.size w (w3.drewN nq) := hb3.trans ⟨rfl, rfl, rfl, Nat.le_refl _, fun _ _ => rfl⟩
    generalize w3.drewN nq = w3q at *
    clear hb3
    go_wp2_with fail
    refine (refLower_any name _ hname).mono ?_
    rintro e w4 ⟨rfl, b4⟩
    have hb4 := hbq.trans (b4.mono hbq.size)
    clear x0 x1 x2 bX3 hbq b4 d0 d2 d3 d4
    go_wp2_with fail
    refine (refName_any _ _).mono ?_
    rintro e w5 ⟨b, rfl, hN, b5⟩
    have hb5 := hb4.trans (b5.mono hb4.size)
    clear hb4 b5
    cases b with
    | false =>
      go_wp2_with fail
      go_ret
      exact ⟨rfl, hb5⟩
    | true =>
      obtain ⟨hn1, hn2, hn3⟩ := name_both _ (hN rfl)
      have HN1 := Lib.hid hn1
      have HN2 := Lib.hid hn2
      have HU : Hid ((Lib.toUpperA name.data.toList).length ≤ 4000) := by unfold Hid Lib.toUpperA; rw [List.length_map]; omega
      have HLo : Hid ((Lib.toLowerA name.data.toList).length ≤ 4000) := by unfold Hid Lib.toLowerA; rw [List.length_map]; omega
      clear hN hn1 hn2 hn3
      go_wp2_with fail
      refine (refUpper_any name _ hname).mono ?_
      rintro e w6 ⟨rfl, b6⟩
      have hb6 := hb5.trans (b6.mono hb5.size)
      clear hb5 b6
      go_wp2_with fail
      refine (lex_two HN1.out HU.out _ (HV.out.below hb6)).mono ?_
      rintro e w7 ⟨ga, capa, rfl, hga, hca, hata, b7⟩
      have hb7 := hb6.trans (b7.mono hb6.size)
      have HAt := Lib.hid hata
      clear hb6 b7 hata
      go_wp2_with fail
      refine (refLower_any name _ hname).mono ?_
      rintro e w8 ⟨rfl, b8⟩
      have hb8 := hb7.trans (b8.mono hb7.size)
      go_wp2_with fail
      refine (lex_two HN2.out HLo.out _ (HV.out.below hb8)).mono ?_
      rintro e w9 ⟨gb, capb, rfl, hgb, hcb, hatb, b9⟩
      have hb9 := hb8.trans (b9.mono hb8.size)
      have hba := b8.trans (b9.mono b8.size)
      have hata9 := HAt.out.below hga hba
      have hga9 : ga < w9.heap.size := Nat.lt_of_lt_of_le hga hba.size
      have m0 : w9.cell? ⟨ga, 0, none⟩ = some (.int .i64 1) := hata9 0 _ _ rfl 0 _ rfl
      have m1 : w9.cell? ⟨ga, 1, none⟩ = some (.string ⟨(Lib.toLowerA name.data.toList).toArray⟩) := hata9 0 _ _ rfl 1 _ rfl
      have HAt9 := Lib.hid hata9
      have HBt9 := Lib.hid hatb
      have HSame : Hid (∀ n : Kept w9, Calls Tryz.prog 9 #[.slice (some ⟨ga, 0, none⟩) 2 capa, .slice (some ⟨gb, 0, none⟩) 2 capb, .bool true] n.w fun e w' => e = .returned (.bool true) ∧ Below n.w.heap.size n.w w') := fun n =>
        same_some true [(⟨1, Lib.toLowerA name.data.toList, 0, 0, []⟩, 0), (Tok.zero, name.data.toList.length)] [(⟨1, Lib.toLowerA name.data.toList, 0, 0, []⟩, 0), (Tok.zero, name.data.toList.length)] ga gb capa capb n.w
          (Nat.lt_of_lt_of_le hga9 n.h.size) (Nat.lt_of_lt_of_le hgb n.h.size) (HAt9.out.below hga9 n.h) (HBt9.out.below hgb n.h) (by simp) rfl (fun _ => rfl)
      have HLow : Hid (∀ n : Kept w9, Calls Tryz.prog 18 #[.string name] n.w fun e w' => e = .returned (.string ⟨(Lib.toLowerA name.data.toList).toArray⟩) ∧ Below n.w.heap.size n.w w') := fun n => refLower_any name n.w hname
      have k0 := fun n : Kept w9 => n.cell m0
      have k1 := fun n : Kept w9 => n.cell m1
      clear hb7 hb8 b8 b9 hba hata9 hatb HAt hga HN1 HN2 HU HLo m0 m1 HAt9 HBt9 hga9 hgb
      go_wp2_with fail
      refine wp_region_kept (by kernel_rfl) (by kernel_rfl) ?_
      repeat (go_big_quiet_step ((first
        | (go_at_call 18; exact Calls.kept (HLow.out _))
        | (go_at_call 9; exact Calls.kept (HSame.out _)))))
      refine wpQuiet_nil ?_
      intro _ hw'
      obtain ⟨nk, hw''⟩ := hw'
      subst hw''
      go_wp2
      go_ret
      exact ⟨rfl, hb9.trans (nk.h.mono hb9.size)⟩
  · go_enter Tryz.func6, Tryz.ntmps6
    go_wp2_with fail
    refine (HR.out _).mono ?_
    rintro e w1 ⟨rfl, b1⟩
    have bX := Blk.below (b := w.heap.size) (t := 31) (Blk.at rfl) b1
    have b0 := (Below.refl w.heap.size w).alloc (Nat.le_refl _) (.cells #[.int .i64 4, .int .i64 i, .string s] 31)
    have hb1 := b0.trans (b1.mono b0.size)
    have x0 := bX.cell 0
    have x1 := bX.cell 1
    have x2 := bX.cell 2
    simp only [List.getElem?_toArray, List.getElem?_cons_zero, List.getElem?_cons_succ] at x0 x1 x2
    clear b0 b1
    go_wp2_with fail
    refine (HP.out _ (HPw.out.below hb1)).mono ?_
    rintro e w2 ⟨rfl, b2⟩
    have bX2 := bX.below b2
    have hb2 := hb1.trans (b2.mono hb1.size)
    clear x0 x1 x2 bX hb1 b2
    have x0 := bX2.cell 0
    have x1 := bX2.cell 1
    have x2 := bX2.cell 2
    simp only [List.getElem?_toArray, List.getElem?_cons_zero, List.getElem?_cons_succ] at x0 x1 x2
    go_wp2_with fail
    refine (lex_two HLx.out HSz.out _ (HV.out.below hb2)).mono ?_
    rintro e w3 ⟨g, cap, rfl, hg, hcap, hat, b3⟩
    have bX3 := bX2.below b3
    have hb3 := hb2.trans (b3.mono hb2.size)
    clear x0 x1 x2 bX2 hb2 b3
    have x0 := bX3.cell 0
    have x1 := bX3.cell 1
    have x2 := bX3.cell 2
    simp only [List.getElem?_toArray, List.getElem?_cons_zero, List.getElem?_cons_succ] at x0 x1 x2
    have d0 : w3.cell? ⟨g, 0, none⟩ = some (.int .i64 3) := hat 0 _ _ rfl 0 _ rfl
    have d2 : w3.cell? ⟨g, 2, none⟩ = some (.int .i64 4) := hat 0 _ _ rfl 2 _ rfl
    have d3 : w3.cell? ⟨g, 3, none⟩ = some (.int .i64 i) := hat 0 _ _ rfl 3 _ rfl
    have d4 : w3.cell? ⟨g, 4, none⟩ = some (.string s) := hat 0 _ _ rfl 4 _ rfl
    clear hat
    go_wp2_with fail
    go_quiet (fail)
    have hbq : Below w.heap.size w (w3.drewN nq) := hb3.trans ⟨rfl, rfl, rfl, Nat.le_refl _, fun _ _ => rfl⟩
    generalize w3.drewN nq = w3q at *
    clear hb3
    go_wp2_with fail
    refine (refLower_any name _ hname).mono ?_
    rintro e w4 ⟨rfl, b4⟩
    have hb4 := hbq.trans (b4.mono hbq.size)
    clear x0 x1 x2 bX3 hbq b4 d0 d2 d3 d4
    go_wp2_with fail
    refine (refName_any _ _).mono ?_
    rintro e w5 ⟨b, rfl, hN, b5⟩
    have hb5 := hb4.trans (b5.mono hb4.size)
    clear hb4 b5
    cases b with
    | false =>
      go_wp2_with fail
      go_ret
      exact ⟨rfl, hb5⟩
    | true =>
      obtain ⟨hn1, hn2, hn3⟩ := name_both _ (hN rfl)
      have HN1 := Lib.hid hn1
      have HN2 := Lib.hid hn2
      have HU : Hid ((Lib.toUpperA name.data.toList).length ≤ 4000) := by unfold Hid Lib.toUpperA; rw [List.length_map]; omega
      have HLo : Hid ((Lib.toLowerA name.data.toList).length ≤ 4000) := by unfold Hid Lib.toLowerA; rw [List.length_map]; omega
      clear hN hn1 hn2 hn3
      go_wp2_with fail
      refine (refUpper_any name _ hname).mono ?_
      rintro e w6 ⟨rfl, b6⟩
      have hb6 := hb5.trans (b6.mono hb5.size)
      clear hb5 b6
      go_wp2_with fail
      refine (lex_two HN1.out HU.out _ (HV.out.below hb6)).mono ?_
      rintro e w7 ⟨ga, capa, rfl, hga, hca, hata, b7⟩
      have hb7 := hb6.trans (b7.mono hb6.size)
      have HAt := Lib.hid hata
      clear hb6 b7 hata
      go_wp2_with fail
      refine (refLower_any name _ hname).mono ?_
      rintro e w8 ⟨rfl, b8⟩
      have hb8 := hb7.trans (b8.mono hb7.size)
      go_wp2_with fail
      refine (lex_two HN2.out HLo.out _ (HV.out.below hb8)).mono ?_
      rintro e w9 ⟨gb, capb, rfl, hgb, hcb, hatb, b9⟩
      have hb9 := hb8.trans (b9.mono hb8.size)
      have hba := b8.trans (b9.mono b8.size)
      have hata9 := HAt.out.below hga hba
      have hga9 : ga < w9.heap.size := Nat.lt_of_lt_of_le hga hba.size
      have m0 : w9.cell? ⟨ga, 0, none⟩ = some (.int .i64 1) := hata9 0 _ _ rfl 0 _ rfl
      have m1 : w9.cell? ⟨ga, 1, none⟩ = some (.string ⟨(Lib.toLowerA name.data.toList).toArray⟩) := hata9 0 _ _ rfl 1 _ rfl
      have HAt9 := Lib.hid hata9
      have HBt9 := Lib.hid hatb
      have HSame : Hid (∀ n : Kept w9, Calls Tryz.prog 9 #[.slice (some ⟨ga, 0, none⟩) 2 capa, .slice (some ⟨gb, 0, none⟩) 2 capb, .bool true] n.w fun e w' => e = .returned (.bool true) ∧ Below n.w.heap.size n.w w') := fun n =>
        same_some true [(⟨1, Lib.toLowerA name.data.toList, 0, 0, []⟩, 0), (Tok.zero, name.data.toList.length)] [(⟨1, Lib.toLowerA name.data.toList, 0, 0, []⟩, 0), (Tok.zero, name.data.toList.length)] ga gb capa capb n.w
          (Nat.lt_of_lt_of_le hga9 n.h.size) (Nat.lt_of_lt_of_le hgb n.h.size) (HAt9.out.below hga9 n.h) (HBt9.out.below hgb n.h) (by simp) rfl (fun _ => rfl)
      have HLow : Hid (∀ n : Kept w9, Calls Tryz.prog 18 #[.string name] n.w fun e w' => e = .returned (.string ⟨(Lib.toLowerA name.data.toList).toArray⟩) ∧ Below n.w.heap.size n.w w') := fun n => refLower_any name n.w hname
      have k0 := fun n : Kept w9 => n.cell m0
      have k1 := fun n : Kept w9 => n.cell m1
      clear hb7 hb8 b8 b9 hba hata9 hatb HAt hga HN1 HN2 HU HLo m0 m1 HAt9 HBt9 hga9 hgb
      go_wp2_with fail
      refine wp_region_kept (by kernel_rfl) (by kernel_rfl) ?_
      repeat (go_big_quiet_step ((first
        | (go_at_call 18; exact Calls.kept (HLow.out _))
        | (go_at_call 9; exact Calls.kept (HSame.out _)))))
      refine wpQuiet_nil ?_
      intro _ hw'
      obtain ⟨nk, hw''⟩ := hw'
      subst hw''
      go_wp2
      go_ret
      exact ⟨rfl, hb9.trans (nk.h.mono hb9.size)⟩
  · go_enter Tryz.func6, Tryz.ntmps6
    go_wp2_with fail
    refine (HR.out _).mono ?_
    rintro e w1 ⟨rfl, b1⟩
    have bX := Blk.below (b := w.heap.size) (t := 31) (Blk.at rfl) b1
    have b0 := (Below.refl w.heap.size w).alloc (Nat.le_refl _) (.cells #[.int .i64 5, .int .i64 i, .string s] 31)
    have hb1 := b0.trans (b1.mono b0.size)
    have x0 := bX.cell 0
    have x1 := bX.cell 1
    have x2 := bX.cell 2
    simp only [List.getElem?_toArray, List.getElem?_cons_zero, List.getElem?_cons_succ] at x0 x1 x2
    clear b0 b1
    go_wp2_with fail
    refine (HP.out _ (HPw.out.below hb1)).mono ?_
    rintro e w2 ⟨rfl, b2⟩
    have bX2 := bX.below b2
    have hb2 := hb1.trans (b2.mono hb1.size)
    clear x0 x1 x2 bX hb1 b2
    have x0 := bX2.cell 0
    have x1 := bX2.cell 1
    have x2 := bX2.cell 2
    simp only [List.getElem?_toArray, List.getElem?_cons_zero, List.getElem?_cons_succ] at x0 x1 x2
    go_wp2_with fail
    refine (lex_two HLx.out HSz.out _ (HV.out.below hb2)).mono ?_
    rintro e w3 ⟨g, cap, rfl, hg, hcap, hat, b3⟩
    have bX3 := bX2.below b3
    have hb3 := hb2.trans (b3.mono hb2.size)
    clear x0 x1 x2 bX2 hb2 b3
    have x0 := bX3.cell 0
    have x1 := bX3.cell 1
    have x2 := bX3.cell 2
    simp only [List.getElem?_toArray, List.getElem?_cons_zero, List.getElem?_cons_succ] at x0 x1 x2
    have d0 : w3.cell? ⟨g, 0, none⟩ = some (.int .i64 3) := hat 0 _ _ rfl 0 _ rfl
    have d2 : w3.cell? ⟨g, 2, none⟩ = some (.int .i64 5) := hat 0 _ _ rfl 2 _ rfl
    have d3 : w3.cell? ⟨g, 3, none⟩ = some (.int .i64 i) := hat 0 _ _ rfl 3 _ rfl
    have d4 : w3.cell? ⟨g, 4, none⟩ = some (.string s) := hat 0 _ _ rfl 4 _ rfl
    clear hat
    go_wp2_with fail
    go_quiet (fail)
    have hbq : Below w.heap.size w (w3.drewN nq) := hb3.trans ⟨rfl, rfl, rfl, Nat.le_refl _, fun _ _ => rfl⟩
    generalize w3.drewN nq = w3q at *
    clear hb3
    go_wp2_with fail
    refine (refLower_any name _ hname).mono ?_
    rintro e w4 ⟨rfl, b4⟩
    have hb4 := hbq.trans (b4.mono hbq.size)
    clear x0 x1 x2 bX3 hbq b4 d0 d2 d3 d4
    go_wp2_with fail
    refine (refName_any _ _).mono ?_
    rintro e w5 ⟨b, rfl, hN, b5⟩
    have hb5 := hb4.trans (b5.mono hb4.size)
    clear hb4 b5
    cases b with
    | false =>
      go_wp2_with fail
      go_ret
      exact ⟨rfl, hb5⟩
    | true =>
      obtain ⟨hn1, hn2, hn3⟩ := name_both _ (hN rfl)
      have HN1 := Lib.hid hn1
      have HN2 := Lib.hid hn2
      have HU : Hid ((Lib.toUpperA name.data.toList).length ≤ 4000) := by unfold Hid Lib.toUpperA; rw [List.length_map]; omega
      have HLo : Hid ((Lib.toLowerA name.data.toList).length ≤ 4000) := by unfold Hid Lib.toLowerA; rw [List.length_map]; omega
      clear hN hn1 hn2 hn3
      go_wp2_with fail
      refine (refUpper_any name _ hname).mono ?_
      rintro e w6 ⟨rfl, b6⟩
      have hb6 := hb5.trans (b6.mono hb5.size)
      clear hb5 b6
      go_wp2_with fail
      refine (lex_two HN1.out HU.out _ (HV.out.below hb6)).mono ?_
      rintro e w7 ⟨ga, capa, rfl, hga, hca, hata, b7⟩
      have hb7 := hb6.trans (b7.mono hb6.size)
      have HAt := Lib.hid hata
      clear hb6 b7 hata
      go_wp2_with fail
      refine (refLower_any name _ hname).mono ?_
      rintro e w8 ⟨rfl, b8⟩
      have hb8 := hb7.trans (b8.mono hb7.size)
      go_wp2_with fail
      refine (lex_two HN2.out HLo.out _ (HV.out.below hb8)).mono ?_
      rintro e w9 ⟨gb, capb, rfl, hgb, hcb, hatb, b9⟩
      have hb9 := hb8.trans (b9.mono hb8.size)
      have hba := b8.trans (b9.mono b8.size)
      have hata9 := HAt.out.below hga hba
      have hga9 : ga < w9.heap.size := Nat.lt_of_lt_of_le hga hba.size
      have m0 : w9.cell? ⟨ga, 0, none⟩ = some (.int .i64 1) := hata9 0 _ _ rfl 0 _ rfl
      have m1 : w9.cell? ⟨ga, 1, none⟩ = some (.string ⟨(Lib.toLowerA name.data.toList).toArray⟩) := hata9 0 _ _ rfl 1 _ rfl
      have HAt9 := Lib.hid hata9
      have HBt9 := Lib.hid hatb
      have HSame : Hid (∀ n : Kept w9, Calls Tryz.prog 9 #[.slice (some ⟨ga, 0, none⟩) 2 capa, .slice (some ⟨gb, 0, none⟩) 2 capb, .bool true] n.w fun e w' => e = .returned (.bool true) ∧ Below n.w.heap.size n.w w') := fun n =>
        same_some true [(⟨1, Lib.toLowerA name.data.toList, 0, 0, []⟩, 0), (Tok.zero, name.data.toList.length)] [(⟨1, Lib.toLowerA name.data.toList, 0, 0, []⟩, 0), (Tok.zero, name.data.toList.length)] ga gb capa capb n.w
          (Nat.lt_of_lt_of_le hga9 n.h.size) (Nat.lt_of_lt_of_le hgb n.h.size) (HAt9.out.below hga9 n.h) (HBt9.out.below hgb n.h) (by simp) rfl (fun _ => rfl)
      have HLow : Hid (∀ n : Kept w9, Calls Tryz.prog 18 #[.string name] n.w fun e w' => e = .returned (.string ⟨(Lib.toLowerA name.data.toList).toArray⟩) ∧ Below n.w.heap.size n.w w') := fun n => refLower_any name n.w hname
      have k0 := fun n : Kept w9 => n.cell m0
      have k1 := fun n : Kept w9 => n.cell m1
      clear hb7 hb8 b8 b9 hba hata9 hatb HAt hga HN1 HN2 HU HLo m0 m1 HAt9 HBt9 hga9 hgb
      go_wp2_with fail
      refine wp_region_kept (by kernel_rfl) (by kernel_rfl) ?_
      repeat (go_big_quiet_step ((first
        | (go_at_call 18; exact Calls.kept (HLow.out _))
        | (go_at_call 9; exact Calls.kept (HSame.out _)))))
      refine wpQuiet_nil ?_
      intro _ hw'
      obtain ⟨nk, hw''⟩ := hw'
      subst hw''
      go_wp2
      go_ret
      exact ⟨rfl, hb9.trans (nk.h.mono hb9.size)⟩

theorem values_any (k i : Int) (s name : ByteArray) (w : World) (hi : -9223372036854775808 ≤ i ∧ i ≤ 9223372036854775807) (hname : name.size ≤ 9223372036854775807) (hV : LexV w) (hP : Pow10 w) : Calls Tryz.prog 6 #[.agg #[.int .i64 k, .int .i64 i, .string s], .string name] w (TruePost w) := by
  cases hr : rightD ⟨k, i, s⟩ with
  | false => exact vals_no k i s name w hr
  | true =>
    by_cases hk : k ≤ 1
    · exact vals_word k i s name w hi hV hP hr hk
    · by_cases hn : (k = 2 ∨ k = 3) ∧ i < 0
      · exact vals_neg k i s name w hi hV hP hr hn.1 hn.2
      · exact vals_pos k i s name w hi hname hV hP hr (by omega) (fun h => by
          have := fun h2 => hn ⟨h, h2⟩
          omega)

end Go.Proofs.YtlmjijiepnefdaaGreatDoor
