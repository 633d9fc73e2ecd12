/-
  The contract of lex's first.
-/
import Derived.Test.YtlmjijiepnefdaaGreatDoorLexName
namespace Go.Proofs.YtlmjijiepnefdaaGreatDoor
open Go.RowKit

def hexQ (l : List UInt8) : Bool := ((l.getD 0 0) == 120 || (l.getD 0 0) == 88) && Lib.hasPrefix (l.drop 1) [39]
def firstR (l : List UInt8) : Tok × Nat × Int :=
  if hexQ l then octR l
  else if letterB (l.getD 0 0) then nameR l
  else if digitB (l.getD 0 0) then numR l
  else if l.getD 0 0 = 39 then txtR l
  else symR l

/-- What lex's readers want of the world. -/
def LexV (w : World) : Prop := ErrV w ∧ MaxV w ∧ Spaces w

theorem letter_x : ∀ x : UInt8, (x.toNat = 120 ∨ x.toNat = 88) → letterB x = true := u8_all _ (by decide +kernel)
theorem prefix_two {s : ByteArray} (h : Lib.hasPrefix (s.data.toList.drop 1) (⟨#[39]⟩ : ByteArray).data.toList = true) : 2 ≤ s.size := by
  rw [← size_list]
  match hl : s.data.toList, h with
  | [], h => simp [Lib.hasPrefix] at h
  | [a], h => simp [Lib.hasPrefix] at h
  | a :: b :: r, _ => simp
theorem letter_u8 : ∀ x : UInt8, letterI (x.toNat : Int) = letterB x := u8_all _ (by decide +kernel)
theorem digit_u8 : ∀ x : UInt8, digitI (x.toNat : Int) = digitB x := u8_all _ (by decide +kernel)
theorem run_pos {s : ByteArray} {x : UInt8} (_ : 0 < s.size) (h : s.data.toList.head? = some x) (hx : digitB x = true) : 0 < runN digitB s.data.toList := by
  cases hl : s.data.toList with
  | nil => rw [hl] at h; simp at h
  | cons a l =>
    rw [hl] at h
    obtain rfl : a = x := by simpa using h
    rw [runN_cons, if_pos hx]; omega

set_option maxHeartbeats 4000000 in
set_option maxRecDepth 100000 in
theorem first_any (s : ByteArray) (B : Nat) (w : World) (h0 : 1 ≤ s.size) (hs : s.size ≤ 4000) (hK : KnownAt w B) (hE : ErrV w) (hM : MaxV w) :
    Calls Tryz.prog 21 #[.string s, .map (some B)] w (TokPost (firstR s.data.toList) w) := by
  have hlt : 0 < s.size := h0
  have b0 : Below w.heap.size w (w.alloc (.cells (cellsT Tok.zero 0) 33)) := (Below.refl _ _).alloc (Nat.le_refl _) _
  have hg : s.data.toList.getD 0 0 = s[0] := by
    rw [List.getD_eq_getElem?_getD, List.getElem?_eq_getElem (by simpa using hlt)]; rfl
  have HR : Hid (firstR s.data.toList = if hexQ s.data.toList then octR s.data.toList else if letterB s[0] then nameR s.data.toList else if digitB s[0] then numR s.data.toList else if s[0] = 39 then txtR s.data.toList else symR s.data.toList) := by
    unfold Hid firstR; rw [hg]
  have HQ : Hid (hexQ s.data.toList = ((s[0] == 120 || s[0] == 88) && Lib.hasPrefix (s.data.toList.drop 1) [39])) := by unfold Hid hexQ; rw [hg]
  have HI : Hid (letterI (s[0].toNat : Int) = letterB s[0] ∧ digitI (s[0].toNat : Int) = digitB s[0]) := ⟨letter_u8 s[0], digit_u8 s[0]⟩
  have hLE := Lib.hid (⟨hE, hM, hK⟩ : ErrV w ∧ MaxV w ∧ KnownAt w B)
  clear hg hE hM hK
  obtain ⟨x, hx⟩ : ∃ x : UInt8, s[0] = x := ⟨_, rfl⟩
  rw [hx] at HR HQ HI
  obtain ⟨c, hc⟩ : ∃ c : Nat, s[0].toNat = c := ⟨_, rfl⟩
  have hxc : x.toNat = c := by rw [← hx]; exact hc
  rw [hxc] at HI
  have hc1 : c < 256 := hxc ▸ UInt8.toNat_lt _
  have HX := Lib.hid hxc
  have HD : Hid (s.data.toList.head? = some x) := by
    unfold Hid
    rw [List.head?_eq_getElem?, List.getElem?_eq_getElem (by simpa using hlt), ← hx]; rfl
  clear hx hxc
  by_cases hx1 : c = 120 ∨ c = 88
  · have hl : letterB x = true := letter_x x (by rcases hx1 with h | h <;> rw [← HX.out] at h <;> omega)
    have hXV : (x == 120 || x == 88) = true := by
      have : x = 120 ∨ x = 88 := by
        rcases hx1 with h | h
        · exact .inl (UInt8.toNat_inj.1 (HX.out.trans h))
        · exact .inr (UInt8.toNat_inj.1 (HX.out.trans h))
      simpa using this
    rcases hx1 with rfl | rfl
    · go_enter Tryz.func21, Tryz.ntmps21
      go_wp2_with fail
      refine (Tryz.strings_HasPrefix _ _ _).mono ?_
      rintro e w1 ⟨rfl, rfl⟩
      rw [Lib.extract_to_end]
      change Hid (hexQ s.data.toList = (_ && Lib.hasPrefix (s.data.toList.drop 1) (⟨#[39]⟩ : ByteArray).data.toList)) at HQ
      have hb := b0
      have bX : Blk (w.alloc (.cells (cellsT Tok.zero 0) 33)) w.heap.size (cellsT Tok.zero 0) 33 := Blk.new _ _ _
      clear b0
      change Blk (w.alloc (.cells #[.int .i64 0, .string ⟨#[]⟩, .int .i64 0, .int .i64 0, .string ⟨#[]⟩, .int .i64 0] 33)) w.heap.size (cellsT Tok.zero 0) 33 at bX
      change Below w.heap.size w (w.alloc (.cells #[.int .i64 0, .string ⟨#[]⟩, .int .i64 0, .int .i64 0, .string ⟨#[]⟩, .int .i64 0] 33)) at hb
      generalize w.alloc (.cells #[.int .i64 0, .string ⟨#[]⟩, .int .i64 0, .int .i64 0, .string ⟨#[]⟩, .int .i64 0] 33) = w1 at *
      by_cases hp : Lib.hasPrefix (s.data.toList.drop 1) (⟨#[39]⟩ : ByteArray).data.toList = true
      · have h2 := prefix_two hp
        rw [hp] at HQ ⊢
        have HQQ : Hid (hexQ s.data.toList = true) := by unfold Hid; rw [HQ.out, hXV]; rfl
        clear HQ hp
        go_wp2_with fail
        have HRR : Hid (firstR s.data.toList = octR s.data.toList) := by unfold Hid; rw [HR.out]; rw [HQQ.out, if_pos rfl]
        clear HR
        refine (octets_any s _ h2 hs).mono ?_
        rintro e w2 ⟨rfl, b2⟩
        replace bX := bX.below b2
        replace hb := hb.trans (b2.mono hb.size)
        clear b2
        generalize octR s.data.toList = r at *
        unfold cellsT at bX ⊢
        have y0 := bX.cell 0
        have y1 := bX.cell 1
        have y2 := bX.cell 2
        have y3 := bX.cell 3
        have y4 := bX.cell 4
        have y5 := bX.cell 5
        simp only [Tok.zero, List.getElem?_toArray, List.getElem?_cons_zero, List.getElem?_cons_succ] at y0 y1 y2 y3 y4 y5
        have f0 := bX.frozen 0
        have f1 := bX.frozen 1
        have f2 := bX.frozen 2
        have f3 := bX.frozen 3
        have f4 := bX.frozen 4
        have f5 := bX.frozen 5
        clear bX
        go_wp2_with fail
        rw [HRR.out]
        refine bodyPost_ret ?_ rfl ⟨rfl, ?_⟩
        · simp [results, Tryz.results21, go_sem, cellsT, y0, y1, y2, y3, y4, y5]
        · exact (((((hb.setCell (Nat.le_refl _) _).setCell (Nat.le_refl _) _).setCell (Nat.le_refl _) _).setCell (Nat.le_refl _) _).setCell (Nat.le_refl _) _).setCell (Nat.le_refl _) _
      · rw [Bool.not_eq_true] at hp
        rw [hp] at HQ ⊢
        have HQQ : Hid (hexQ s.data.toList = false) := by unfold Hid; rw [HQ.out, Bool.and_false]
        clear HQ hp
        go_wp2_with fail
        refine (letter_any _ _).mono ?_
        rintro e w3 ⟨rfl, rfl⟩
        rw [(by decide +kernel : letterI 120 = true)]
        go_wp2_with fail
        have HRR : Hid (firstR s.data.toList = nameR s.data.toList) := by unfold Hid; rw [HR.out]; rw [HQQ.out, if_neg (by simp), if_pos hl]
        clear HR
        refine (lexName_any s B _ hs (hLE.out.2.2.below hb)).mono ?_
        rintro e w2 ⟨rfl, b2⟩
        replace bX := bX.below b2
        replace hb := hb.trans (b2.mono hb.size)
        clear b2
        generalize nameR s.data.toList = r at *
        unfold cellsT at bX ⊢
        have y0 := bX.cell 0
        have y1 := bX.cell 1
        have y2 := bX.cell 2
        have y3 := bX.cell 3
        have y4 := bX.cell 4
        have y5 := bX.cell 5
        simp only [Tok.zero, List.getElem?_toArray, List.getElem?_cons_zero, List.getElem?_cons_succ] at y0 y1 y2 y3 y4 y5
        have f0 := bX.frozen 0
        have f1 := bX.frozen 1
        have f2 := bX.frozen 2
        have f3 := bX.frozen 3
        have f4 := bX.frozen 4
        have f5 := bX.frozen 5
        clear bX
        go_wp2_with fail
        rw [HRR.out]
        refine bodyPost_ret ?_ rfl ⟨rfl, ?_⟩
        · simp [results, Tryz.results21, go_sem, cellsT, y0, y1, y2, y3, y4, y5]
        · exact (((((hb.setCell (Nat.le_refl _) _).setCell (Nat.le_refl _) _).setCell (Nat.le_refl _) _).setCell (Nat.le_refl _) _).setCell (Nat.le_refl _) _).setCell (Nat.le_refl _) _
    · go_enter Tryz.func21, Tryz.ntmps21
      go_wp2_with fail
      refine (Tryz.strings_HasPrefix _ _ _).mono ?_
      rintro e w1 ⟨rfl, rfl⟩
      rw [Lib.extract_to_end]
      change Hid (hexQ s.data.toList = (_ && Lib.hasPrefix (s.data.toList.drop 1) (⟨#[39]⟩ : ByteArray).data.toList)) at HQ
      have hb := b0
      have bX : Blk (w.alloc (.cells (cellsT Tok.zero 0) 33)) w.heap.size (cellsT Tok.zero 0) 33 := Blk.new _ _ _
      clear b0
      change Blk (w.alloc (.cells #[.int .i64 0, .string ⟨#[]⟩, .int .i64 0, .int .i64 0, .string ⟨#[]⟩, .int .i64 0] 33)) w.heap.size (cellsT Tok.zero 0) 33 at bX
      change Below w.heap.size w (w.alloc (.cells #[.int .i64 0, .string ⟨#[]⟩, .int .i64 0, .int .i64 0, .string ⟨#[]⟩, .int .i64 0] 33)) at hb
      generalize w.alloc (.cells #[.int .i64 0, .string ⟨#[]⟩, .int .i64 0, .int .i64 0, .string ⟨#[]⟩, .int .i64 0] 33) = w1 at *
      by_cases hp : Lib.hasPrefix (s.data.toList.drop 1) (⟨#[39]⟩ : ByteArray).data.toList = true
      · have h2 := prefix_two hp
        rw [hp] at HQ ⊢
        have HQQ : Hid (hexQ s.data.toList = true) := by unfold Hid; rw [HQ.out, hXV]; rfl
        clear HQ hp
        go_wp2_with fail
        have HRR : Hid (firstR s.data.toList = octR s.data.toList) := by unfold Hid; rw [HR.out]; rw [HQQ.out, if_pos rfl]
        clear HR
        refine (octets_any s _ h2 hs).mono ?_
        rintro e w2 ⟨rfl, b2⟩
        replace bX := bX.below b2
        replace hb := hb.trans (b2.mono hb.size)
        clear b2
        generalize octR s.data.toList = r at *
        unfold cellsT at bX ⊢
        have y0 := bX.cell 0
        have y1 := bX.cell 1
        have y2 := bX.cell 2
        have y3 := bX.cell 3
        have y4 := bX.cell 4
        have y5 := bX.cell 5
        simp only [Tok.zero, List.getElem?_toArray, List.getElem?_cons_zero, List.getElem?_cons_succ] at y0 y1 y2 y3 y4 y5
        have f0 := bX.frozen 0
        have f1 := bX.frozen 1
        have f2 := bX.frozen 2
        have f3 := bX.frozen 3
        have f4 := bX.frozen 4
        have f5 := bX.frozen 5
        clear bX
        go_wp2_with fail
        rw [HRR.out]
        refine bodyPost_ret ?_ rfl ⟨rfl, ?_⟩
        · simp [results, Tryz.results21, go_sem, cellsT, y0, y1, y2, y3, y4, y5]
        · exact (((((hb.setCell (Nat.le_refl _) _).setCell (Nat.le_refl _) _).setCell (Nat.le_refl _) _).setCell (Nat.le_refl _) _).setCell (Nat.le_refl _) _).setCell (Nat.le_refl _) _
      · rw [Bool.not_eq_true] at hp
        rw [hp] at HQ ⊢
        have HQQ : Hid (hexQ s.data.toList = false) := by unfold Hid; rw [HQ.out, Bool.and_false]
        clear HQ hp
        go_wp2_with fail
        refine (letter_any _ _).mono ?_
        rintro e w3 ⟨rfl, rfl⟩
        rw [(by decide +kernel : letterI 88 = true)]
        go_wp2_with fail
        have HRR : Hid (firstR s.data.toList = nameR s.data.toList) := by unfold Hid; rw [HR.out]; rw [HQQ.out, if_neg (by simp), if_pos hl]
        clear HR
        refine (lexName_any s B _ hs (hLE.out.2.2.below hb)).mono ?_
        rintro e w2 ⟨rfl, b2⟩
        replace bX := bX.below b2
        replace hb := hb.trans (b2.mono hb.size)
        clear b2
        generalize nameR s.data.toList = r at *
        unfold cellsT at bX ⊢
        have y0 := bX.cell 0
        have y1 := bX.cell 1
        have y2 := bX.cell 2
        have y3 := bX.cell 3
        have y4 := bX.cell 4
        have y5 := bX.cell 5
        simp only [Tok.zero, List.getElem?_toArray, List.getElem?_cons_zero, List.getElem?_cons_succ] at y0 y1 y2 y3 y4 y5
        have f0 := bX.frozen 0
        have f1 := bX.frozen 1
        have f2 := bX.frozen 2
        have f3 := bX.frozen 3
        have f4 := bX.frozen 4
        have f5 := bX.frozen 5
        clear bX
        go_wp2_with fail
        rw [HRR.out]
        refine bodyPost_ret ?_ rfl ⟨rfl, ?_⟩
        · simp [results, Tryz.results21, go_sem, cellsT, y0, y1, y2, y3, y4, y5]
        · exact (((((hb.setCell (Nat.le_refl _) _).setCell (Nat.le_refl _) _).setCell (Nat.le_refl _) _).setCell (Nat.le_refl _) _).setCell (Nat.le_refl _) _).setCell (Nat.le_refl _) _
  · have hx2 : ¬ (c : Int) = 120 := by omega
    have hx3 : ¬ (c : Int) = 88 := by omega
    have HQQ : Hid (hexQ s.data.toList = false) := by
      unfold Hid
      rw [HQ.out]
      have e1 : ¬ x = 120 := fun h => hx1 (.inl (by rw [← HX.out, h]; rfl))
      have e2 : ¬ x = 88 := fun h => hx1 (.inr (by rw [← HX.out, h]; rfl))
      simp [e1, e2]
    clear hx1 HQ
    go_enter Tryz.func21, Tryz.ntmps21
    go_wp2_with fail
    refine (letter_any _ _).mono ?_
    rintro e w1 ⟨rfl, rfl⟩
    have hb := b0
    have bX : Blk (w.alloc (.cells (cellsT Tok.zero 0) 33)) w.heap.size (cellsT Tok.zero 0) 33 := Blk.new _ _ _
    clear b0
    change Blk (w.alloc (.cells #[.int .i64 0, .string ⟨#[]⟩, .int .i64 0, .int .i64 0, .string ⟨#[]⟩, .int .i64 0] 33)) w.heap.size (cellsT Tok.zero 0) 33 at bX
    change Below w.heap.size w (w.alloc (.cells #[.int .i64 0, .string ⟨#[]⟩, .int .i64 0, .int .i64 0, .string ⟨#[]⟩, .int .i64 0] 33)) at hb
    generalize w.alloc (.cells #[.int .i64 0, .string ⟨#[]⟩, .int .i64 0, .int .i64 0, .string ⟨#[]⟩, .int .i64 0] 33) = w1 at *
    rw [HI.out.1]
    by_cases hl : letterB x = true
    · rw [hl]
      go_wp2_with fail
      have HRR : Hid (firstR s.data.toList = nameR s.data.toList) := by unfold Hid; rw [HR.out]; rw [HQQ.out, if_neg (by simp), if_pos hl]
      clear HR
      refine (lexName_any s B _ hs (hLE.out.2.2.below hb)).mono ?_
      rintro e w2 ⟨rfl, b2⟩
      replace bX := bX.below b2
      replace hb := hb.trans (b2.mono hb.size)
      clear b2
      generalize nameR s.data.toList = r at *
      unfold cellsT at bX ⊢
      have y0 := bX.cell 0
      have y1 := bX.cell 1
      have y2 := bX.cell 2
      have y3 := bX.cell 3
      have y4 := bX.cell 4
      have y5 := bX.cell 5
      simp only [Tok.zero, List.getElem?_toArray, List.getElem?_cons_zero, List.getElem?_cons_succ] at y0 y1 y2 y3 y4 y5
      have f0 := bX.frozen 0
      have f1 := bX.frozen 1
      have f2 := bX.frozen 2
      have f3 := bX.frozen 3
      have f4 := bX.frozen 4
      have f5 := bX.frozen 5
      clear bX
      go_wp2_with fail
      rw [HRR.out]
      refine bodyPost_ret ?_ rfl ⟨rfl, ?_⟩
      · simp [results, Tryz.results21, go_sem, cellsT, y0, y1, y2, y3, y4, y5]
      · exact (((((hb.setCell (Nat.le_refl _) _).setCell (Nat.le_refl _) _).setCell (Nat.le_refl _) _).setCell (Nat.le_refl _) _).setCell (Nat.le_refl _) _).setCell (Nat.le_refl _) _
    · rw [Bool.not_eq_true] at hl
      rw [hl]
      go_wp2_with fail
      refine (digit_any _ _).mono ?_
      rintro e w4 ⟨rfl, rfl⟩
      rw [HI.out.2]
      by_cases hd : digitB x = true
      · rw [hd]
        go_wp2_with fail
        have HRR : Hid (firstR s.data.toList = numR s.data.toList) := by unfold Hid; rw [HR.out]; rw [HQQ.out, if_neg (by simp), if_neg (by rw [hl]; simp), if_pos hd]
        clear HR
        refine (number_any s _ hs (run_pos hlt HD.out hd) (hLE.out.1.below hb)).mono ?_
        rintro e w2 ⟨rfl, b2⟩
        replace bX := bX.below b2
        replace hb := hb.trans (b2.mono hb.size)
        clear b2
        generalize numR s.data.toList = r at *
        unfold cellsT at bX ⊢
        have y0 := bX.cell 0
        have y1 := bX.cell 1
        have y2 := bX.cell 2
        have y3 := bX.cell 3
        have y4 := bX.cell 4
        have y5 := bX.cell 5
        simp only [Tok.zero, List.getElem?_toArray, List.getElem?_cons_zero, List.getElem?_cons_succ] at y0 y1 y2 y3 y4 y5
        have f0 := bX.frozen 0
        have f1 := bX.frozen 1
        have f2 := bX.frozen 2
        have f3 := bX.frozen 3
        have f4 := bX.frozen 4
        have f5 := bX.frozen 5
        clear bX
        go_wp2_with fail
        rw [HRR.out]
        refine bodyPost_ret ?_ rfl ⟨rfl, ?_⟩
        · simp [results, Tryz.results21, go_sem, cellsT, y0, y1, y2, y3, y4, y5]
        · exact (((((hb.setCell (Nat.le_refl _) _).setCell (Nat.le_refl _) _).setCell (Nat.le_refl _) _).setCell (Nat.le_refl _) _).setCell (Nat.le_refl _) _).setCell (Nat.le_refl _) _
      · rw [Bool.not_eq_true] at hd
        rw [hd]
        by_cases hq : c = 39
        · have hqi : (c : Int) = 39 := by omega
          have hxq : x = 39 := UInt8.toNat_inj.1 (HX.out.trans hq)
          clear hq
          go_wp2_with fail
          have HRR : Hid (firstR s.data.toList = txtR s.data.toList) := by unfold Hid; rw [HR.out]; rw [HQQ.out, if_neg (by simp), if_neg (by rw [hl]; simp), if_neg (by rw [hd]; simp), if_pos hxq]
          clear HR
          refine (text_any s _ h0 hs (hLE.out.2.1.below hb)).mono ?_
          rintro e w2 ⟨rfl, b2⟩
          replace bX := bX.below b2
          replace hb := hb.trans (b2.mono hb.size)
          clear b2
          generalize txtR s.data.toList = r at *
          unfold cellsT at bX ⊢
          have y0 := bX.cell 0
          have y1 := bX.cell 1
          have y2 := bX.cell 2
          have y3 := bX.cell 3
          have y4 := bX.cell 4
          have y5 := bX.cell 5
          simp only [Tok.zero, List.getElem?_toArray, List.getElem?_cons_zero, List.getElem?_cons_succ] at y0 y1 y2 y3 y4 y5
          have f0 := bX.frozen 0
          have f1 := bX.frozen 1
          have f2 := bX.frozen 2
          have f3 := bX.frozen 3
          have f4 := bX.frozen 4
          have f5 := bX.frozen 5
          clear bX
          go_wp2_with fail
          rw [HRR.out]
          refine bodyPost_ret ?_ rfl ⟨rfl, ?_⟩
          · simp [results, Tryz.results21, go_sem, cellsT, y0, y1, y2, y3, y4, y5]
          · exact (((((hb.setCell (Nat.le_refl _) _).setCell (Nat.le_refl _) _).setCell (Nat.le_refl _) _).setCell (Nat.le_refl _) _).setCell (Nat.le_refl _) _).setCell (Nat.le_refl _) _
        · have hqi : ¬ (c : Int) = 39 := by omega
          have hxq : ¬ x = 39 := fun h => hq (by rw [← HX.out, h]; rfl)
          clear hq
          go_wp2_with fail
          have HRR : Hid (firstR s.data.toList = symR s.data.toList) := by unfold Hid; rw [HR.out]; rw [HQQ.out, if_neg (by simp), if_neg (by rw [hl]; simp), if_neg (by rw [hd]; simp), if_neg hxq]
          clear HR
          refine (symbol_any s _).mono ?_
          rintro e w2 ⟨rfl, b2⟩
          replace bX := bX.below b2
          replace hb := hb.trans (b2.mono hb.size)
          clear b2
          generalize symR s.data.toList = r at *
          unfold cellsT at bX ⊢
          have y0 := bX.cell 0
          have y1 := bX.cell 1
          have y2 := bX.cell 2
          have y3 := bX.cell 3
          have y4 := bX.cell 4
          have y5 := bX.cell 5
          simp only [Tok.zero, List.getElem?_toArray, List.getElem?_cons_zero, List.getElem?_cons_succ] at y0 y1 y2 y3 y4 y5
          have f0 := bX.frozen 0
          have f1 := bX.frozen 1
          have f2 := bX.frozen 2
          have f3 := bX.frozen 3
          have f4 := bX.frozen 4
          have f5 := bX.frozen 5
          clear bX
          go_wp2_with fail
          rw [HRR.out]
          refine bodyPost_ret ?_ rfl ⟨rfl, ?_⟩
          · simp [results, Tryz.results21, go_sem, cellsT, y0, y1, y2, y3, y4, y5]
          · exact (((((hb.setCell (Nat.le_refl _) _).setCell (Nat.le_refl _) _).setCell (Nat.le_refl _) _).setCell (Nat.le_refl _) _).setCell (Nat.le_refl _) _).setCell (Nat.le_refl _) _

end Go.Proofs.YtlmjijiepnefdaaGreatDoor
