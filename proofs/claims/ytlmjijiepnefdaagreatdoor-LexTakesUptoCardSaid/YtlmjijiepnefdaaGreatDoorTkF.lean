/-
  LexTakes, the second form: for every two texts that are together of bulk at most 1048576 the law returns true, and its arguments read as they did; the variables that the row lists start as the program's text lays them (the card ties them).
-/
import Derived.Test.YtlmjijiepnefdaaGreatDoorTkC
import Derived.Test.YtlmjijiepnefdaaGreatDoorTkS
import Derived.Test.YtlmjijiepnefdaaGreatDoorLexFirst
import Derived.Deep.Cut
import Derived.Test.YtlmjijiepnefdaaGreatDoorTkA
import Derived.Test.YtlmjijiepnefdaaGreatDoorLexQ
import Derived.Test.YtlmjijiepnefdaaGreatDoorTkM
import Derived.Test.YtlmjijiepnefdaaGreatDoorTkW
import Derived.Test.YtlmjijiepnefdaaGreatDoorKept
import Derived.Test.YtlmjijiepnefdaaGreatDoorLexAgP
import Derived.Test.YtlmjijiepnefdaaGreatDoorVarsG
import Derived.Deep.DeepHandedRow
namespace Go.Proofs.YtlmjijiepnefdaaGreatDoor
open Go.RowKit

theorem got_two (r : Tok × Nat × Int) (at0 : Nat) : (∃ (t : Tok) (p : Int), (if r.2.2 = 0 then gotC r.1 at0 ((at0 + r.2.1 : Nat) : Int) else wrongC r.2.2 ((at0 + r.2.1 : Nat) : Int)) = gotC t at0 p) ∨ ∃ e p : Int, (if r.2.2 = 0 then gotC r.1 at0 ((at0 + r.2.1 : Nat) : Int) else wrongC r.2.2 ((at0 + r.2.1 : Nat) : Int)) = wrongC e p := by
  split
  · exact .inl ⟨_, _, rfl⟩
  · exact .inr ⟨_, _, rfl⟩

set_option maxHeartbeats 4000000 in
set_option maxRecDepth 100000 in
theorem refToken_any (hNum : ∀ (s : ByteArray) (at0 : Nat) (w : World), s.size ≤ 4000 → at0 ≤ s.size → Calls Tryz.prog 43 #[.string s, .int .i64 at0] w (GotPost (numR (s.data.toList.drop at0)) at0 w))
    (s : ByteArray) (at0 : Nat) (w : World) (hs : s.size ≤ 4000) (ha : at0 < s.size) : Calls Tryz.prog 23 #[.string s, .int .i64 at0] w (GotPost (firstR (s.data.toList.drop at0)) at0 w) := by
  have HD := Lib.hid (drop_cons s at0 ha)
  have b0 := (Below.refl w.heap.size w).alloc (Nat.le_refl _) (.cells (wrongC 0 0) 48)
  have bX0 : Blk (w.alloc (.cells (wrongC 0 0) 48)) w.heap.size (wrongC 0 0) 48 := Blk.new _ _ _
  unfold wrongC at b0 bX0
  obtain ⟨x, hx⟩ : ∃ x : UInt8, s[at0] = x := ⟨_, rfl⟩
  obtain ⟨c, hc⟩ : ∃ c : Nat, s[at0].toNat = c := ⟨_, rfl⟩
  have hc1 : c < 256 := hc ▸ UInt8.toNat_lt _
  have HXc : Hid (x.toNat = c) := by unfold Hid; rw [← hx]; exact hc
  rw [hx] at HD
  have HXs := Lib.hid hx
  clear hx
  go_enter Tryz.func23, Tryz.ntmps23
  go_upto_region 2 with fail
  generalize w.alloc (.cells #[.int .i64 0, .string ⟨#[]⟩, .int .i64 0, .int .i64 0, .string ⟨#[]⟩, .int .i64 0, .int .i64 0, .int .i64 0, .int .i64 0, .bool false] 48) = w1 at *
  have HB0 := Lib.hid b0
  have HX0 := Lib.hid bX0
  clear b0 bX0
  go_cut [5, 28] from 6 (fun p t wx => p = .int .u8 (c : Int) ∧ t = .bool (hexQ (s.data.toList.drop at0)) ∧ wx = w1)
  case first =>
    have HH : Hid (hexQ (s.data.toList.drop at0) = ((c == 120 || c == 88) && Lib.hasPrefix (s.data.toList.drop (at0 + 1)) [39])) := by
      unfold Hid hexQ
      have e : (x == 120 || x == 88) = (c == 120 || c == 88) := by
        rw [← HXc.out]
        have h1 : (x == 120) = (x.toNat == 120) := by rw [Bool.eq_iff_iff]; simp [← UInt8.toNat_inj]
        have h2 : (x == 88) = (x.toNat == 88) := by rw [Bool.eq_iff_iff]; simp [← UInt8.toNat_inj]
        rw [h1, h2]
      rw [HD.out]
      exact congrArg (fun b => b && Lib.hasPrefix (s.data.toList.drop (at0 + 1)) [39]) e
    by_cases h1 : at0 + 1 < s.size
    · have HD2 := Lib.hid (drop_cons s (at0 + 1) h1)
      have h1i : (at0 : Int) + 1 < s.size := by omega
      obtain ⟨d, hd⟩ : ∃ d : Nat, s[at0 + 1].toNat = d := ⟨_, rfl⟩
      have HP : Hid (Lib.hasPrefix (s.data.toList.drop (at0 + 1)) [39] = (d == 39)) := by
        unfold Hid
        rw [HD2.out, ← hd]
        have h1 : ((39 : UInt8) == s[at0 + 1]) = (s[at0 + 1].toNat == 39) := by rw [Bool.eq_iff_iff]; simp [← UInt8.toNat_inj]; exact eq_comm
        rw [← h1]
        simp [Lib.hasPrefix, List.isPrefixOf]
      clear HD2
      by_cases ha1 : c = 120
      · by_cases hd1 : d = 39
        · have hE : hexQ (s.data.toList.drop at0) = true := by rw [HH.out, HP.out, ha1, hd1]; rfl
          subst ha1 hd1
          go_wp2_with fail
          go_meet
          exact ⟨rfl, by rw [hE], rfl⟩
        · have hE : hexQ (s.data.toList.drop at0) = false := by rw [HH.out, HP.out, ha1]; simp [hd1]
          have hdi : ¬ (d : Int) = 39 := by omega
          subst ha1
          go_wp2_with fail
          go_meet
          exact ⟨rfl, by rw [hE, show ((d : Int) == 39) = false by simpa using hdi], rfl⟩
      · by_cases hb1 : c = 88
        · by_cases hd1 : d = 39
          · have hE : hexQ (s.data.toList.drop at0) = true := by rw [HH.out, HP.out, hb1, hd1]; rfl
            subst hb1 hd1
            go_wp2_with fail
            go_meet
            exact ⟨rfl, by rw [hE], rfl⟩
          · have hE : hexQ (s.data.toList.drop at0) = false := by rw [HH.out, HP.out, hb1]; simp [hd1]
            have hdi : ¬ (d : Int) = 39 := by omega
            subst hb1
            go_wp2_with fail
            go_meet
            exact ⟨rfl, by rw [hE, show ((d : Int) == 39) = false by simpa using hdi], rfl⟩
        · have hE : hexQ (s.data.toList.drop at0) = false := by rw [HH.out]; simp [ha1, hb1]
          have hci : ¬ (c : Int) = 120 := by omega
          have hci2 : ¬ (c : Int) = 88 := by omega
          go_wp2_with fail
          go_meet
          exact ⟨rfl, by rw [hE], rfl⟩
    · have hE : hexQ (s.data.toList.drop at0) = false := by
        rw [HH.out, List.drop_eq_nil_of_le (by rw [size_list]; omega)]
        simp [Lib.hasPrefix]
      have h1i : ¬ (at0 : Int) + 1 < s.size := by omega
      by_cases ha1 : c = 120
      · subst ha1
        go_wp2_with fail
        go_meet
        exact ⟨rfl, by rw [hE], rfl⟩
      · by_cases hb1 : c = 88
        · subst hb1
          go_wp2_with fail
          go_meet
          exact ⟨rfl, by rw [hE], rfl⟩
        · have hci : ¬ (c : Int) = 120 := by omega
          have hci2 : ¬ (c : Int) = 88 := by omega
          go_wp2_with fail
          go_meet
          exact ⟨rfl, by rw [hE], rfl⟩
  case rest =>
    obtain ⟨rfl, rfl, rfl⟩ := hcut
    have HG : Hid ((s.data.toList.drop at0).getD 0 0 = x) := by unfold Hid; rw [HD.out]; rfl
    have hLt : Hid (∀ w' : World, Calls Tryz.prog 27 #[.int .u8 (c : Int)] w' fun e w'' => e = .returned (.bool (letterB x)) ∧ w'' = w') := by
      intro w'
      rw [← HXc.out]
      exact refLetter_any x w'
    have hDt : Hid (∀ w' : World, Calls Tryz.prog 28 #[.int .u8 (c : Int)] w' fun e w'' => e = .returned (.bool (digitB x)) ∧ w'' = w') := by
      intro w'
      rw [← HXc.out]
      exact refDigit_any x w'
    cases hq : hexQ (s.data.toList.drop at0) with
    | true =>
      have h2 : at0 + 2 ≤ s.size := by
        unfold hexQ at hq
        rw [Bool.and_eq_true, HD.out] at hq
        have h3 := hq.2
        rw [List.drop_one, List.tail_cons] at h3
        rcases Nat.lt_or_ge (at0 + 1) s.size with h | h
        · omega
        · rw [List.drop_eq_nil_of_le (by rw [size_list]; omega)] at h3
          simp [Lib.hasPrefix] at h3
      have hF : firstR (s.data.toList.drop at0) = octR (s.data.toList.drop at0) := by unfold firstR; rw [hq]; rfl
      clear hq
      go_wp2_with fail
      refine (refBytes_any s at0 _ hs h2).mono ?_
      rintro e w2 ⟨rfl, b2⟩
      have hb2 := HB0.out.trans (b2.mono HB0.out.size)
      have bY := HX0.out.below b2
      have y0 := bY.cell 0
      have y1 := bY.cell 1
      have y2 := bY.cell 2
      have y3 := bY.cell 3
      have y4 := bY.cell 4
      have y5 := bY.cell 5
      have y6 := bY.cell 6
      have y7 := bY.cell 7
      have y8 := bY.cell 8
      have y9 := bY.cell 9
      simp only [List.getElem?_toArray, List.getElem?_cons_zero, List.getElem?_cons_succ] at y0 y1 y2 y3 y4 y5 y6 y7 y8 y9
      have f0 := bY.frozen 0
      have f1 := bY.frozen 1
      have f2 := bY.frozen 2
      have f3 := bY.frozen 3
      have f4 := bY.frozen 4
      have f5 := bY.frozen 5
      have f6 := bY.frozen 6
      have f7 := bY.frozen 7
      have f8 := bY.frozen 8
      have f9 := bY.frozen 9
      clear bY b2
      have HR := Lib.hid hF
      rcases got_two (octR (s.data.toList.drop at0)) at0 with ⟨t, p, hC⟩ | ⟨e1, p, hC⟩
      · rw [hC]
        have HC := Lib.hid hC
        clear hC
        unfold gotC
        go_wp2_with fail
        unfold GotPost
        rw [HR.out, HC.out]
        refine bodyPost_ret ?_ rfl ⟨rfl, ?_⟩
        · simp [results, Tryz.results23, go_sem, gotC, y0, y1, y2, y3, y4, y5, y6, y7, y8, y9]
        · exact ((((((((((hb2.setCell (Nat.le_refl _) _).setCell (Nat.le_refl _) _).setCell (Nat.le_refl _) _).setCell (Nat.le_refl _) _).setCell (Nat.le_refl _) _).setCell (Nat.le_refl _) _).setCell (Nat.le_refl _) _).setCell (Nat.le_refl _) _).setCell (Nat.le_refl _) _).setCell (Nat.le_refl _) _)
      · rw [hC]
        have HC := Lib.hid hC
        clear hC
        unfold wrongC
        go_wp2_with fail
        unfold GotPost
        rw [HR.out, HC.out]
        refine bodyPost_ret ?_ rfl ⟨rfl, ?_⟩
        · simp [results, Tryz.results23, go_sem, wrongC, y0, y1, y2, y3, y4, y5, y6, y7, y8, y9]
        · exact ((((((((((hb2.setCell (Nat.le_refl _) _).setCell (Nat.le_refl _) _).setCell (Nat.le_refl _) _).setCell (Nat.le_refl _) _).setCell (Nat.le_refl _) _).setCell (Nat.le_refl _) _).setCell (Nat.le_refl _) _).setCell (Nat.le_refl _) _).setCell (Nat.le_refl _) _).setCell (Nat.le_refl _) _)
    | false =>
      cases hl : letterB x with
      | true =>
        have hF : firstR (s.data.toList.drop at0) = nameR (s.data.toList.drop at0) := by unfold firstR; rw [hq, HG.out, hl]; rfl
        have HL := Lib.hid hl
        clear hq hl
        go_wp2_with (go_at_call 27; (with_reducible refine (hLt.out _).mono ?_); rintro e w'' ⟨rfl, rfl⟩; rw [HL.out])
        refine (refNameT_any s at0 _ hs (by omega)).mono ?_
        rintro e w2 ⟨rfl, b2⟩
        have hb2 := HB0.out.trans (b2.mono HB0.out.size)
        have bY := HX0.out.below b2
        have y0 := bY.cell 0
        have y1 := bY.cell 1
        have y2 := bY.cell 2
        have y3 := bY.cell 3
        have y4 := bY.cell 4
        have y5 := bY.cell 5
        have y6 := bY.cell 6
        have y7 := bY.cell 7
        have y8 := bY.cell 8
        have y9 := bY.cell 9
        simp only [List.getElem?_toArray, List.getElem?_cons_zero, List.getElem?_cons_succ] at y0 y1 y2 y3 y4 y5 y6 y7 y8 y9
        have f0 := bY.frozen 0
        have f1 := bY.frozen 1
        have f2 := bY.frozen 2
        have f3 := bY.frozen 3
        have f4 := bY.frozen 4
        have f5 := bY.frozen 5
        have f6 := bY.frozen 6
        have f7 := bY.frozen 7
        have f8 := bY.frozen 8
        have f9 := bY.frozen 9
        clear bY b2
        have HR := Lib.hid hF
        rcases got_two (nameR (s.data.toList.drop at0)) at0 with ⟨t, p, hC⟩ | ⟨e1, p, hC⟩
        · rw [hC]
          have HC := Lib.hid hC
          clear hC
          unfold gotC
          go_wp2_with fail
          unfold GotPost
          rw [HR.out, HC.out]
          refine bodyPost_ret ?_ rfl ⟨rfl, ?_⟩
          · simp [results, Tryz.results23, go_sem, gotC, y0, y1, y2, y3, y4, y5, y6, y7, y8, y9]
          · exact ((((((((((hb2.setCell (Nat.le_refl _) _).setCell (Nat.le_refl _) _).setCell (Nat.le_refl _) _).setCell (Nat.le_refl _) _).setCell (Nat.le_refl _) _).setCell (Nat.le_refl _) _).setCell (Nat.le_refl _) _).setCell (Nat.le_refl _) _).setCell (Nat.le_refl _) _).setCell (Nat.le_refl _) _)
        · rw [hC]
          have HC := Lib.hid hC
          clear hC
          unfold wrongC
          go_wp2_with fail
          unfold GotPost
          rw [HR.out, HC.out]
          refine bodyPost_ret ?_ rfl ⟨rfl, ?_⟩
          · simp [results, Tryz.results23, go_sem, wrongC, y0, y1, y2, y3, y4, y5, y6, y7, y8, y9]
          · exact ((((((((((hb2.setCell (Nat.le_refl _) _).setCell (Nat.le_refl _) _).setCell (Nat.le_refl _) _).setCell (Nat.le_refl _) _).setCell (Nat.le_refl _) _).setCell (Nat.le_refl _) _).setCell (Nat.le_refl _) _).setCell (Nat.le_refl _) _).setCell (Nat.le_refl _) _).setCell (Nat.le_refl _) _)
      | false =>
        have HL := Lib.hid hl
        cases hdg : digitB x with
        | true =>
          have hF : firstR (s.data.toList.drop at0) = numR (s.data.toList.drop at0) := by unfold firstR; rw [hq, HG.out, hl, hdg]; rfl
          have HDg := Lib.hid hdg
          clear hq hl hdg
          go_wp2_with (first
            | (go_at_call 27; (with_reducible refine (hLt.out _).mono ?_); rintro e w'' ⟨rfl, rfl⟩; rw [HL.out])
            | (go_at_call 28; (with_reducible refine (hDt.out _).mono ?_); rintro e w'' ⟨rfl, rfl⟩; rw [HDg.out]))
          refine (hNum s at0 _ hs (by omega)).mono ?_
          rintro e w2 ⟨rfl, b2⟩
          have hb2 := HB0.out.trans (b2.mono HB0.out.size)
          have bY := HX0.out.below b2
          have y0 := bY.cell 0
          have y1 := bY.cell 1
          have y2 := bY.cell 2
          have y3 := bY.cell 3
          have y4 := bY.cell 4
          have y5 := bY.cell 5
          have y6 := bY.cell 6
          have y7 := bY.cell 7
          have y8 := bY.cell 8
          have y9 := bY.cell 9
          simp only [List.getElem?_toArray, List.getElem?_cons_zero, List.getElem?_cons_succ] at y0 y1 y2 y3 y4 y5 y6 y7 y8 y9
          have f0 := bY.frozen 0
          have f1 := bY.frozen 1
          have f2 := bY.frozen 2
          have f3 := bY.frozen 3
          have f4 := bY.frozen 4
          have f5 := bY.frozen 5
          have f6 := bY.frozen 6
          have f7 := bY.frozen 7
          have f8 := bY.frozen 8
          have f9 := bY.frozen 9
          clear bY b2
          have HR := Lib.hid hF
          rcases got_two (numR (s.data.toList.drop at0)) at0 with ⟨t, p, hC⟩ | ⟨e1, p, hC⟩
          · rw [hC]
            have HC := Lib.hid hC
            clear hC
            unfold gotC
            go_wp2_with fail
            unfold GotPost
            rw [HR.out, HC.out]
            refine bodyPost_ret ?_ rfl ⟨rfl, ?_⟩
            · simp [results, Tryz.results23, go_sem, gotC, y0, y1, y2, y3, y4, y5, y6, y7, y8, y9]
            · exact ((((((((((hb2.setCell (Nat.le_refl _) _).setCell (Nat.le_refl _) _).setCell (Nat.le_refl _) _).setCell (Nat.le_refl _) _).setCell (Nat.le_refl _) _).setCell (Nat.le_refl _) _).setCell (Nat.le_refl _) _).setCell (Nat.le_refl _) _).setCell (Nat.le_refl _) _).setCell (Nat.le_refl _) _)
          · rw [hC]
            have HC := Lib.hid hC
            clear hC
            unfold wrongC
            go_wp2_with fail
            unfold GotPost
            rw [HR.out, HC.out]
            refine bodyPost_ret ?_ rfl ⟨rfl, ?_⟩
            · simp [results, Tryz.results23, go_sem, wrongC, y0, y1, y2, y3, y4, y5, y6, y7, y8, y9]
            · exact ((((((((((hb2.setCell (Nat.le_refl _) _).setCell (Nat.le_refl _) _).setCell (Nat.le_refl _) _).setCell (Nat.le_refl _) _).setCell (Nat.le_refl _) _).setCell (Nat.le_refl _) _).setCell (Nat.le_refl _) _).setCell (Nat.le_refl _) _).setCell (Nat.le_refl _) _).setCell (Nat.le_refl _) _)
        | false =>
          have HDg := Lib.hid hdg
          by_cases h39 : c = 39
          · have hF : firstR (s.data.toList.drop at0) = txtR (s.data.toList.drop at0) := by
              unfold firstR
              rw [hq, HG.out, hl, hdg, if_neg (by simp), if_neg (by simp), if_neg (by simp), if_pos]
              exact UInt8.toNat_inj.1 (HXc.out.trans h39)
            subst h39
            have hLt9 : Hid (∀ w' : World, Calls Tryz.prog 27 #[.int .u8 39] w' fun e w'' => e = .returned (.bool (letterB x)) ∧ w'' = w') := fun w' => hLt.out w'
            have hDt9 : Hid (∀ w' : World, Calls Tryz.prog 28 #[.int .u8 39] w' fun e w'' => e = .returned (.bool (digitB x)) ∧ w'' = w') := fun w' => hDt.out w'
            clear hq hl hdg
            go_wp2_with (first
              | (go_at_call 27; (with_reducible refine (hLt9.out _).mono ?_); rintro e w'' ⟨rfl, rfl⟩; rw [HL.out])
              | (go_at_call 28; (with_reducible refine (hDt9.out _).mono ?_); rintro e w'' ⟨rfl, rfl⟩; rw [HDg.out]))
            refine (refText_any s at0 _ hs ha).mono ?_
            rintro e w2 ⟨rfl, b2⟩
            have hb2 := HB0.out.trans (b2.mono HB0.out.size)
            have bY := HX0.out.below b2
            have y0 := bY.cell 0
            have y1 := bY.cell 1
            have y2 := bY.cell 2
            have y3 := bY.cell 3
            have y4 := bY.cell 4
            have y5 := bY.cell 5
            have y6 := bY.cell 6
            have y7 := bY.cell 7
            have y8 := bY.cell 8
            have y9 := bY.cell 9
            simp only [List.getElem?_toArray, List.getElem?_cons_zero, List.getElem?_cons_succ] at y0 y1 y2 y3 y4 y5 y6 y7 y8 y9
            have f0 := bY.frozen 0
            have f1 := bY.frozen 1
            have f2 := bY.frozen 2
            have f3 := bY.frozen 3
            have f4 := bY.frozen 4
            have f5 := bY.frozen 5
            have f6 := bY.frozen 6
            have f7 := bY.frozen 7
            have f8 := bY.frozen 8
            have f9 := bY.frozen 9
            clear bY b2
            have HR := Lib.hid hF
            rcases got_two (txtR (s.data.toList.drop at0)) at0 with ⟨t, p, hC⟩ | ⟨e1, p, hC⟩
            · rw [hC]
              have HC := Lib.hid hC
              clear hC
              unfold gotC
              go_wp2_with fail
              unfold GotPost
              rw [HR.out, HC.out]
              refine bodyPost_ret ?_ rfl ⟨rfl, ?_⟩
              · simp [results, Tryz.results23, go_sem, gotC, y0, y1, y2, y3, y4, y5, y6, y7, y8, y9]
              · exact ((((((((((hb2.setCell (Nat.le_refl _) _).setCell (Nat.le_refl _) _).setCell (Nat.le_refl _) _).setCell (Nat.le_refl _) _).setCell (Nat.le_refl _) _).setCell (Nat.le_refl _) _).setCell (Nat.le_refl _) _).setCell (Nat.le_refl _) _).setCell (Nat.le_refl _) _).setCell (Nat.le_refl _) _)
            · rw [hC]
              have HC := Lib.hid hC
              clear hC
              unfold wrongC
              go_wp2_with fail
              unfold GotPost
              rw [HR.out, HC.out]
              refine bodyPost_ret ?_ rfl ⟨rfl, ?_⟩
              · simp [results, Tryz.results23, go_sem, wrongC, y0, y1, y2, y3, y4, y5, y6, y7, y8, y9]
              · exact ((((((((((hb2.setCell (Nat.le_refl _) _).setCell (Nat.le_refl _) _).setCell (Nat.le_refl _) _).setCell (Nat.le_refl _) _).setCell (Nat.le_refl _) _).setCell (Nat.le_refl _) _).setCell (Nat.le_refl _) _).setCell (Nat.le_refl _) _).setCell (Nat.le_refl _) _).setCell (Nat.le_refl _) _)
          · have hF : firstR (s.data.toList.drop at0) = symR (s.data.toList.drop at0) := by
              unfold firstR
              rw [hq, HG.out, hl, hdg, if_neg (by simp), if_neg (by simp), if_neg (by simp), if_neg]
              intro h
              rw [h] at HXc
              exact h39 HXc.out.symm
            have h39i : ¬ (c : Int) = 39 := by omega
            clear hq hl hdg
            go_wp2_with (first
              | (go_at_call 27; (with_reducible refine (hLt.out _).mono ?_); rintro e w'' ⟨rfl, rfl⟩; rw [HL.out])
              | (go_at_call 28; (with_reducible refine (hDt.out _).mono ?_); rintro e w'' ⟨rfl, rfl⟩; rw [HDg.out]))
            refine (refSymbol_any s at0 _ hs ha).mono ?_
            rintro e w2 ⟨rfl, b2⟩
            have hb2 := HB0.out.trans (b2.mono HB0.out.size)
            have bY := HX0.out.below b2
            have y0 := bY.cell 0
            have y1 := bY.cell 1
            have y2 := bY.cell 2
            have y3 := bY.cell 3
            have y4 := bY.cell 4
            have y5 := bY.cell 5
            have y6 := bY.cell 6
            have y7 := bY.cell 7
            have y8 := bY.cell 8
            have y9 := bY.cell 9
            simp only [List.getElem?_toArray, List.getElem?_cons_zero, List.getElem?_cons_succ] at y0 y1 y2 y3 y4 y5 y6 y7 y8 y9
            have f0 := bY.frozen 0
            have f1 := bY.frozen 1
            have f2 := bY.frozen 2
            have f3 := bY.frozen 3
            have f4 := bY.frozen 4
            have f5 := bY.frozen 5
            have f6 := bY.frozen 6
            have f7 := bY.frozen 7
            have f8 := bY.frozen 8
            have f9 := bY.frozen 9
            clear bY b2
            have HR := Lib.hid hF
            rcases got_two (symR (s.data.toList.drop at0)) at0 with ⟨t, p, hC⟩ | ⟨e1, p, hC⟩
            · rw [hC]
              have HC := Lib.hid hC
              clear hC
              unfold gotC
              go_wp2_with fail
              unfold GotPost
              rw [HR.out, HC.out]
              refine bodyPost_ret ?_ rfl ⟨rfl, ?_⟩
              · simp [results, Tryz.results23, go_sem, gotC, y0, y1, y2, y3, y4, y5, y6, y7, y8, y9]
              · exact ((((((((((hb2.setCell (Nat.le_refl _) _).setCell (Nat.le_refl _) _).setCell (Nat.le_refl _) _).setCell (Nat.le_refl _) _).setCell (Nat.le_refl _) _).setCell (Nat.le_refl _) _).setCell (Nat.le_refl _) _).setCell (Nat.le_refl _) _).setCell (Nat.le_refl _) _).setCell (Nat.le_refl _) _)
            · rw [hC]
              have HC := Lib.hid hC
              clear hC
              unfold wrongC
              go_wp2_with fail
              unfold GotPost
              rw [HR.out, HC.out]
              refine bodyPost_ret ?_ rfl ⟨rfl, ?_⟩
              · simp [results, Tryz.results23, go_sem, wrongC, y0, y1, y2, y3, y4, y5, y6, y7, y8, y9]
              · exact ((((((((((hb2.setCell (Nat.le_refl _) _).setCell (Nat.le_refl _) _).setCell (Nat.le_refl _) _).setCell (Nat.le_refl _) _).setCell (Nat.le_refl _) _).setCell (Nat.le_refl _) _).setCell (Nat.le_refl _) _).setCell (Nat.le_refl _) _).setCell (Nat.le_refl _) _).setCell (Nat.le_refl _) _)

end Go.Proofs.YtlmjijiepnefdaaGreatDoor

/-
  The contract of the reference's Lex.
-/
namespace Go.Proofs.YtlmjijiepnefdaaGreatDoor
open Go.RowKit

set_option maxHeartbeats 4000000 in
set_option maxRecDepth 100000 in
theorem refLex_any (hNum : ∀ (s : ByteArray) (at0 : Nat) (w : World), s.size ≤ 4000 → at0 ≤ s.size → Calls Tryz.prog 43 #[.string s, .int .i64 at0] w (GotPost (numR (s.data.toList.drop at0)) at0 w))
    (s : ByteArray) (w : World) (hs : s.size ≤ 4000) : Calls Tryz.prog 8 #[.string s] w (LexPost (lexR s.data.toList) w) := by
  obtain ⟨i0, hi, hz0, hz1, hz2⟩ := info_parts Tryz.info33
  have h4 : (s.size : Int) ≤ 4000 := by omega
  go_enter Tryz.func8, Tryz.ntmps8
  go_wp2_with fail
  have hO0 : OwnG encT 6 33 (w.alloc (.cells #[] 33)) w.heap.size (.slice (some ⟨w.heap.size, 0, none⟩) 0 0) [] := OwnG.lit0 33 w w.heap.size (Nat.le_refl _)
  have hb0 := (Below.refl w.heap.size w).alloc (Nat.le_refl _) (.cells #[] 33)
  refine (refBlanks_any s 0 _ hs (Nat.zero_le _)).mono ?_
  rintro e w1 ⟨rfl, rfl⟩
  have hg := gapN_le s.data.toList
  rw [size_list] at hg
  rw [List.drop_zero, Nat.zero_add]
  have HR : Hid (lexR s.data.toList = lexS 1000 (gapN s.data.toList) (s.data.toList.drop (gapN s.data.toList))) := rfl
  generalize hG : gapN s.data.toList = g at *
  clear hG
  generalize w.alloc (.cells #[] 33) = w1 at *
  go_wp2_with fail
  go_loopw [5, 6] (fun v p wr => ∃ (A : List (Tok × Nat)) (pos : Nat), p = .int .i64 pos ∧ pos ≤ s.size ∧ A.length ≤ 1000 ∧ Hid (OwnG encT 6 33 wr w.heap.size v A) ∧ Below w.heap.size w wr ∧
      Hid (lexR s.data.toList = (A ++ (lexS (1000 - A.length) pos (s.data.toList.drop pos)).1, (lexS (1000 - A.length) pos (s.data.toList.drop pos)).2))) (fun _ p _ => s.size - (intOf p).toNat)
  case atStart => exact ⟨[], g, rfl, hg, Nat.zero_le _, hO0, hb0, HR.out⟩
  case round =>
    clear hO0 hb0 HR
    obtain ⟨A, pos, rfl, hp, hA, HO, hb, HL⟩ := hrel
    obtain ⟨va, cap, rfl⟩ := HO.out.slice
    by_cases hlt : pos < s.size
    · have hne : s.data.toList.drop pos ≠ [] := by
        intro h
        have := congrArg List.length h
        rw [List.length_drop, size_list] at this
        simp at this; omega
      by_cases hk : A.length = 1000
      · rw [hk, lexS_full pos hne] at HL
        have hki : (A.length : Int) = 1000 := by omega
        clear hk
        go_wp2_with fail
        rw [HL.out]
        refine bodyPost_ret (v := .tuple #[.slice none 0 0, .int .i64 2, .int .i64 (pos : Int)]) (by simp [results, Tryz.results8, go_sem]) rfl ⟨⟨_, rfl, by simp⟩, hb⟩
      · have hki : (A.length : Int) < 1000 := by omega
        have hkn : A.length < 1000 := by omega
        go_wp2_with fail
        refine (refToken_any hNum s pos _ hs hlt).mono ?_
        rintro e w3 ⟨rfl, b3⟩
        have HSz := Lib.hid (first_size _ hne)
        have hLG := lexS_go (1000 - (A.length + 1)) pos hne
        have hLB := lexS_bad (1000 - (A.length + 1)) pos hne
        rw [show 1000 - (A.length + 1) + 1 = 1000 - A.length by omega] at hLG hLB
        have HLG := Lib.hid hLG
        have HLB := Lib.hid hLB
        clear hLG hLB hk
        generalize firstR (s.data.toList.drop pos) = r at *
        have HO3 := Lib.hid (HO.out.below b3)
        have hb3 := hb.trans (b3.mono hb.size)
        clear HO hb b3
        by_cases hr : r.2.2 = 0
        · have hLG := HLG.out hr
          have hsz1 := HSz.out.2 hr
          rw [hLG] at HL
          obtain ⟨rt, rn, re⟩ := r
          obtain rfl : re = 0 := hr
          have hrn : rn ≤ s.size - pos := by have := HSz.out.1; rw [List.length_drop, size_list] at this; exact this
          simp only [] at hsz1 HL
          clear HLG HLB hLG HSz
          rw [List.drop_drop, List.drop_drop] at HL
          rw [if_pos rfl]
          unfold gotC
          have hC0 : ((pos + rn : Nat) : Int) = (pos : Int) + rn := by omega
          rw [hC0]
          have HO4 := Lib.hid ((HO3.out.alloc (.cells #[.int .i64 rt.k, .string ⟨rt.s.toArray⟩, .int .i64 rt.dk, .int .i64 rt.di, .string ⟨rt.ds.toArray⟩, .int .i64 pos, .int .i64 ((pos : Int) + rn), .int .i64 0, .int .i64 0, .bool false] 48)).alloc (.cells (cellsT rt pos) 33))
          have HW : Hid (ValG encT 6 ((w3.alloc (.cells #[.int .i64 rt.k, .string ⟨rt.s.toArray⟩, .int .i64 rt.dk, .int .i64 rt.di, .string ⟨rt.ds.toArray⟩, .int .i64 pos, .int .i64 ((pos : Int) + rn), .int .i64 0, .int .i64 0, .bool false] 48)).alloc (.cells (cellsT rt pos) 33)) (.slice (some ⟨w3.heap.size + 1, 0, none⟩) 1 1) [(rt, pos)]) := by
            have h := valT_new (w3.alloc (.cells #[.int .i64 rt.k, .string ⟨rt.s.toArray⟩, .int .i64 rt.dk, .int .i64 rt.di, .string ⟨rt.ds.toArray⟩, .int .i64 pos, .int .i64 ((pos : Int) + rn), .int .i64 0, .int .i64 0, .bool false] 48)) (rt, pos) 33
            rw [World.size_alloc] at h
            exact h
          have hb4 := (hb3.alloc hb3.size (.cells #[.int .i64 rt.k, .string ⟨rt.s.toArray⟩, .int .i64 rt.dk, .int .i64 rt.di, .string ⟨rt.ds.toArray⟩, .int .i64 pos, .int .i64 ((pos : Int) + rn), .int .i64 0, .int .i64 0, .bool false] 48)).alloc (hb3.alloc hb3.size (.cells #[.int .i64 rt.k, .string ⟨rt.s.toArray⟩, .int .i64 rt.dk, .int .i64 rt.di, .string ⟨rt.ds.toArray⟩, .int .i64 pos, .int .i64 ((pos : Int) + rn), .int .i64 0, .int .i64 0, .bool false] 48)).size (.cells (cellsT rt pos) 33)
          have bG := (Blk.new w3 #[.int .i64 rt.k, .string ⟨rt.s.toArray⟩, .int .i64 rt.dk, .int .i64 rt.di, .string ⟨rt.ds.toArray⟩, .int .i64 pos, .int .i64 ((pos : Int) + rn), .int .i64 0, .int .i64 0, .bool false] 48).alloc (.cells (cellsT rt pos) 33)
          have HBS := Lib.hid (show w.heap.size ≤ ((w3.alloc (.cells #[.int .i64 rt.k, .string ⟨rt.s.toArray⟩, .int .i64 rt.dk, .int .i64 rt.di, .string ⟨rt.ds.toArray⟩, .int .i64 pos, .int .i64 ((pos : Int) + rn), .int .i64 0, .int .i64 0, .bool false] 48)).alloc (.cells (cellsT rt pos) 33)).heap.size by have := hb3.size; rw [World.size_alloc, World.size_alloc]; omega)
          have HAl := Lib.hid (show A.length + [(rt, pos)].length ≤ 1001 by simp; omega)
          have HA2 := Lib.hid (show 1001 ≤ maxLen by decide)
          have HNe : Hid (∀ b, (Value.slice va A.length cap).ownBlock = some b → b ≠ w3.heap.size) := fun b hb => by have := (OwnG.lt HO3.out b hb).2; omega
          clear HO3 hb3 hC0
          unfold cellsT at bG HW HO4 HBS hb4
          go_wp2_with (first
            | (at_builtin; refine wpList_append_g encT_len (by decide) 22 33 i0 _ 64 Tryz.underlying22 hi hz0 hz1 hz2 rfl _ rfl (.tmp 32) (.tmp 35) rfl w.heap.size _ _ A [(rt, pos)] rfl rfl HO4.out HW.out (by intro x hx; exact encT_one x) (Nat.le_trans HAl.out HA2.out) (by have := HAl.out; omega) HBS.out ?_; intro v' w' ho hgw; have bG' : Blk w' w3.heap.size _ 48 := (hgw.block w3.heap.size (by simp; omega) (fun e => HNe.out _ e.symm rfl)).trans bG; have g6 := bG'.cell 6; simp only [List.getElem?_toArray, List.getElem?_cons_zero, List.getElem?_cons_succ] at g6)
            | fail)
          have hbg := OwnG.grown HO4.out HBS.out hgw
          have hb5 := hb4.trans hbg
          have HO5 := Lib.hid ho
          clear hgw hbg HW HO4 hb4 ho HBS HAl HA2 HNe bG bG'
          have hxs2 : (s.extract (pos + rn) s.size).size = s.size - (pos + rn) := ext_size s (pos + rn)
          have hgl := gapN_le (s.data.toList.drop (pos + rn))
          rw [List.length_drop, size_list] at hgl
          have hBl : Hid (∀ w' : World, Calls Tryz.prog 22 #[.string s, .int .i64 ((pos : Int) + rn)] w' fun e w'' => e = .returned (.int .i64 ((pos + rn + gapN (s.data.toList.drop (pos + rn)) : Nat) : Int)) ∧ w'' = w') := fun w' => refBlanks_any s (pos + rn) w' hs (by omega)
          generalize gapN (s.data.toList.drop (pos + rn)) = g2 at *
          refine (hBl.out _).mono ?_
          rintro e w6 ⟨rfl, rfl⟩
          go_wp2_with fail
          go_roundw
          case rel =>
            refine ⟨A ++ [(rt, pos)], pos + rn + g2, rfl, by omega, by simp; omega, HO5.out, hb5, ?_⟩
            unfold Hid
            rw [HL.out, List.length_append, List.append_assoc]
            rfl
          case measure => simp [intOf]; omega
        · have hLB := HLB.out hr
          rw [hLB] at HL
          have hrb : (r.2.2 == 0) = false := by simpa using hr
          rw [if_neg hr]
          unfold wrongC
          have hr0 := Lib.hid hr
          clear hr HLG HLB
          go_wp2_with fail
          go_region
          all_goals
            rename_i K0 hK0
            change K0 _ _
            refine hK0 _ _ ?_
            go_wp2_with fail
            rw [HL.out]
            refine bodyPost_ret (v := .tuple #[.slice none 0 0, .int .i64 r.2.2, .int .i64 ((pos + r.2.1 : Nat) : Int)]) (by simp [results, Tryz.results8, go_sem]) rfl ⟨⟨_, rfl, by rw [if_neg hr0.out]⟩, (hb3.alloc hb3.size _).drew⟩
    · have : pos = s.size := by omega
      subst this
      have hd : s.data.toList.drop s.size = [] := List.drop_eq_nil_of_le (by rw [size_list]; exact Nat.le_refl _)
      rw [hd, lexS_nil] at HL
      clear hd
      have HO2 := Lib.hid (HO.out.alloc (.cells (cellsT Tok.zero s.size) 33))
      have HW := Lib.hid (valT_new wr (Tok.zero, s.size) 33)
      have hb2 := hb.alloc hb.size (.cells (cellsT Tok.zero s.size) 33)
      have HBS := Lib.hid (show w.heap.size ≤ (wr.alloc (.cells (cellsT Tok.zero s.size) 33)).heap.size by have := hb.size; rw [World.size_alloc]; omega)
      have HAl := Lib.hid (show A.length + [(Tok.zero, s.size)].length ≤ 1001 by simp; omega)
      have HA2 := Lib.hid (show 1001 ≤ maxLen by decide)
      clear HO hb
      go_wp2_with (at_builtin; refine wpList_append_g encT_len (by decide) 22 33 i0 _ 64 Tryz.underlying22 hi hz0 hz1 hz2 rfl _ rfl _ _ rfl w.heap.size _ _ A [(Tok.zero, s.size)] rfl rfl HO2.out HW.out (by intro x hx; exact encT_one x) (Nat.le_trans HAl.out HA2.out) (by have := HAl.out; omega) HBS.out ?_; intro v' w' ho hgw)
      rw [HL.out]
      refine bodyPost_ret (v := .tuple #[v', .int .i64 0, .int .i64 0]) (by simp [results, Tryz.results8, go_sem]) rfl ⟨⟨_, rfl, by rw [if_pos rfl]; exact ho⟩, hb2.trans (OwnG.grown HO2.out HBS.out hgw)⟩

set_option maxHeartbeats 4000000 in
set_option maxRecDepth 100000 in
theorem refLex_big (s : ByteArray) (w : World) (hs : ¬ s.size ≤ 4000) : Calls Tryz.prog 8 #[.string s] w (LexPost ([], 2, 0) w) := by
  have h1 : 4000 < (s.size : Int) := by omega
  go_enter Tryz.func8, Tryz.ntmps8
  go_wp2_with fail
  refine bodyPost_ret (v := .tuple #[.slice none 0 0, .int .i64 2, .int .i64 0]) (by simp [results, Tryz.results8, go_sem]) rfl ⟨⟨_, rfl, by simp⟩, Below.refl _ _⟩

theorem refLex_all (hNum : ∀ (s : ByteArray) (at0 : Nat) (w : World), s.size ≤ 4000 → at0 ≤ s.size → Calls Tryz.prog 43 #[.string s, .int .i64 at0] w (GotPost (numR (s.data.toList.drop at0)) at0 w))
    (s : ByteArray) (w : World) : Calls Tryz.prog 8 #[.string s] w (LexPost (lexQ s) w) := by
  unfold lexQ
  by_cases h : s.size ≤ 4000
  · rw [if_pos h]; exact refLex_any hNum s w h
  · rw [if_neg h]; exact refLex_big s w h

end Go.Proofs.YtlmjijiepnefdaaGreatDoor

/-
  The law LexTakes, from its contracts.
-/
namespace Go.Proofs.YtlmjijiepnefdaaGreatDoor
open Go.RowKit

theorem lexS_len : ∀ (f pos : Nat) (l : List UInt8), (lexS f pos l).1.length ≤ f + 1 ∧ ((lexS f pos l).2.1 = 0 → 0 < (lexS f pos l).1.length)
  | 0, pos, l => by
    by_cases h : l = []
    · rw [h, lexS_nil]; simp
    · rw [lexS_full pos h]; simp
  | f + 1, pos, l => by
    by_cases h : l = []
    · rw [h, lexS_nil]; simp
    · by_cases hb : (firstR l).2.2 = 0
      · rw [lexS_go f pos h hb]
        have := (lexS_len f (pos + (firstR l).2.1 + gapN (l.drop (firstR l).2.1)) ((l.drop (firstR l).2.1).drop (gapN (l.drop (firstR l).2.1)))).1
        exact ⟨by simp only [List.length_cons]; omega, fun _ => by simp⟩
      · rw [lexS_bad f pos h hb]
        exact ⟨by simp, fun h0 => absurd h0 hb⟩
theorem lexQ_len (s : ByteArray) (h : (lexQ s).2.1 = 0) : 0 < (lexQ s).1.length ∧ (lexQ s).1.length ≤ 1001 := by
  unfold lexQ at h ⊢
  split at h
  · rename_i hs
    rw [if_pos hs]
    have := lexS_len 1000 (gapN s.data.toList) (s.data.toList.drop (gapN s.data.toList))
    exact ⟨this.2 h, this.1⟩
  · cases h

theorem same_nil (places : Bool) (w : World) : Calls Tryz.prog 9 #[.slice none 0 0, .slice none 0 0, .bool places] w (TruePost w) := by
  go_enter Tryz.func9, Tryz.ntmps9
  go_wp2_with fail
  go_loopw [15] (fun i wr => i = .int .i64 0 ∧ wr = w) (fun i _ => (intOf i).toNat)
  case atStart => exact ⟨rfl, rfl⟩
  case round =>
    obtain ⟨rfl, rfl⟩ := hrel
    go_wp2_with fail
    go_ret
    exact ⟨rfl, Below.refl _ _⟩

set_option maxHeartbeats 4000000 in
set_option maxRecDepth 100000 in
theorem takes_any (s x : ByteArray) (w : World) (hx : x.size ≤ 1048576) (hV : LexV w) : Calls Tryz.prog 3 #[.string s, .string x] w (TruePost w) := by
  have HV := Lib.hid hV
  clear hV
  go_enter Tryz.func3, Tryz.ntmps3
  go_wp2_with fail
  have HQ := Lib.hid (lexQ_len s)
  refine (lex_all s _ HV.out).mono ?_
  rintro e w1 ⟨⟨va, rfl, ha⟩, b1⟩
  go_wp2_with fail
  refine (refLex_all refNumber_any s _).mono ?_
  rintro e w2 ⟨⟨vb, rfl, hb⟩, b2⟩
  generalize lexQ s = R at *
  obtain ⟨L, er, pl⟩ := R
  simp only [] at ha hb
  have hSm : Hid (Calls Tryz.prog 9 #[va, vb, .bool true] w2 (TruePost w2)) := by
    by_cases he : er = 0
    · rw [if_pos he] at ha hb
      obtain ⟨h1, h2⟩ := HQ.out he
      obtain ⟨a, ca, rfl⟩ := ha.slice
      obtain ⟨b, cb, rfl⟩ := hb.slice
      obtain ⟨ga, rfl, _, hga, _, _, hata⟩ := own_at ha h1
      obtain ⟨gb, rfl, _, hgb, _, _, hatb⟩ := own_at hb h1
      exact same_some true L L ga gb ca cb w2 (Nat.lt_of_lt_of_le hga b2.size) hgb (hata.below hga b2) hatb h2 rfl (fun _ => rfl)
    · rw [if_neg he] at ha hb
      rw [ha, hb]
      exact same_nil true w2
  have hb2 := b1.trans (b2.mono b1.size)
  have hxu : (⟨(Lib.toUpperA x.data.toList).toArray⟩ : ByteArray).size ≤ 1048576 := by
    show (Lib.toUpperA x.data.toList).length ≤ _
    unfold Lib.toUpperA
    rw [List.length_map, size_list]; exact hx
  have hml : 1048576 ≤ maxLen := by decide
  clear ha hb b1 b2 HQ
  go_wp2_with fail
  refine hSm.out.mono ?_
  rintro e w3 ⟨rfl, b3⟩
  have hb3 := hb2.trans (b3.mono hb2.size)
  go_wp2_with fail
  refine (lexWord_any x _ (by omega) (HV.out.below hb3).2.2).mono ?_
  rintro e w4 ⟨rfl, b4⟩
  have hb4 := hb3.trans (b4.mono hb3.size)
  go_wp2_with fail
  refine (refWord_any x _ (by omega)).mono ?_
  rintro e w5 ⟨rfl, rfl⟩
  go_wp2_with fail
  refine (refUpper_any x _ (by omega)).mono ?_
  rintro e w6 ⟨rfl, b6⟩
  have hb6 := hb4.trans (b6.mono hb4.size)
  go_wp2_with fail
  refine (lexWord_any _ _ (by omega) (HV.out.below hb6).2.2).mono ?_
  rintro e w7 ⟨rfl, b7⟩
  have hb7 := hb6.trans (b7.mono hb6.size)
  go_wp2_with fail
  refine (refUpper_any x _ (by omega)).mono ?_
  rintro e w8 ⟨rfl, b8⟩
  have hb8 := hb7.trans (b8.mono hb7.size)
  go_wp2_with fail
  refine (refWord_any _ _ (by omega)).mono ?_
  rintro e w9 ⟨rfl, rfl⟩
  go_wp2_with fail
  go_ret
  exact ⟨rfl, hb8⟩

end Go.Proofs.YtlmjijiepnefdaaGreatDoor


namespace Go.Proofs.YtlmjijiepnefdaaGreatDoor
open Go.ChangeShapes Go.WideShapes Go.ChangeAt Go.RowKit Go.Joins Go.Deep

theorem lexTakes_whole (os : Os) {H : Type} (enc : TypeId × Value → H) :
    DataW.whole enc Tryz.prog ((World.laidAll Tryz.prog os Rows.lexTakesUptoRow.laid).forCall (fun _ _ => 0) ⟨#[], #[.string ⟨#[]⟩, .string ⟨#[]⟩], []⟩).memory Tryz.f3.params.toList Rows.lexTakesSpec.vars false #[Value.string ⟨#[]⟩, Value.string ⟨#[]⟩].toList 8 = some ([.lit (.string []), .lit (.string [])], [], []) := by kernel_rfl

set_option linter.unusedVariables false in
set_option maxRecDepth 100000 in
theorem lexTakesUpto_lifted (os : Os) (started : os.Started) (H : Type) (enc : TypeId × Value → H) (F : Stop.Interp) :
    ReturnsInHanded {} Tryz.checked os 3 .any ((Rows.OpenSpec.upto Rows.lexTakesSpec).preRow enc Tryz.prog Tryz.f3 Rows.lexTakesUptoRow.domain false Rows.lexTakesUptoRow.laid)
      (((Rows.OpenSpec.upto Rows.lexTakesSpec).at F).post enc Tryz.prog Tryz.f3 false true false false) := by
  refine returnsInHanded_of_row (C := Tryz.checked) (s := Rows.OpenSpec.upto Rows.lexTakesSpec) Tryz.own started (by kernel_rfl) Tryz.func3
    ⟨World.laidAll Tryz.prog os Rows.lexTakesUptoRow.laid, fun _ _ => 0, ⟨#[], #[.string ⟨#[]⟩, .string ⟨#[]⟩], []⟩, World.laidAll_os _ _ _, World.shaped_of_ZipB (by kernel_rfl) (by kernel_rfl),
      (Input.okWide_of_okWideB (P := Tryz.prog) (w := (World.laidAll Tryz.prog os Rows.lexTakesUptoRow.laid).forCall (fun _ _ => 0) ⟨#[], #[.string ⟨#[]⟩, .string ⟨#[]⟩], []⟩) (f := 3) (i := ⟨#[], #[.string ⟨#[]⟩, .string ⟨#[]⟩], []⟩) (base := 0) (by kernel_rfl)).1,
      (Input.okWide_of_okWideB (P := Tryz.prog) (w := (World.laidAll Tryz.prog os Rows.lexTakesUptoRow.laid).forCall (fun _ _ => 0) ⟨#[], #[.string ⟨#[]⟩, .string ⟨#[]⟩], []⟩) (f := 3) (i := ⟨#[], #[.string ⟨#[]⟩, .string ⟨#[]⟩], []⟩) (by kernel_rfl)).2,
      OpenSpec.preRow_of_cond 8 (lexTakes_whole os enc) (by kernel_rfl) (fun k hk => by cases hk; kernel_rfl) (by kernel_rfl) (by rw [MakeChecks.laidMetH_plain _ _ _ (by kernel_rfl)]; exact laidMet_laidAll _ (by kernel_rfl) (by kernel_rfl)),
      by simp only [Assume.holds]; refine ⟨?_, ?_, ?_, ?_, ?_⟩; all_goals first | (intro h; cases h; done) | (intro d h; cases h; done) | simp⟩ ?_
  intro W base args ds gs before hval0 hW _ hcond _ hL hS _
  have hk := hcond _ rfl
  have hL' : laidMet Tryz.prog Rows.lexTakesUptoRow.laid W := by rw [MakeChecks.laidMetH_plain _ _ _ (by kernel_rfl)] at hL; exact hL
  have hval : ∀ (j : Nat) t v, Tryz.f3.params[j]? = some t → args[j]? = some v → Value.okWide Tryz.prog W .any base t v := hval0
  have hW' := hW
  obtain ⟨p, q, hA0, hV, rfl, _, _⟩ := hW
  have hA : DataW.TrodAll enc Tryz.prog W 0 (fun _ => true) true Tryz.f3.params.toList args.toList ds p := hA0
  rw [Tryz.params3] at hA hval
  obtain ⟨v0, v1, d0, d1, p0, p1, rfl, rfl, rfl, h0, h1⟩ := trodAll_two hA
  obtain ⟨rfl, rfl⟩ := trodVars_none hV
  obtain ⟨s0, rfl, rfl, rfl, b0⟩ := Go.ChangeMaps.open_string Tryz.underlying9 (hval 0 9 v0 rfl rfl) h0
  obtain ⟨s1, rfl, rfl, rfl, b1⟩ := Go.ChangeMaps.open_string Tryz.underlying9 (hval 1 9 v1 rfl rfl) h1
  have hbk : s1.size ≤ 1048576 := by
    have hb : Rows.uptoBulkAll [(.lit (.string s0.data.toList) : DataW H), .lit (.string s1.data.toList)] ≤ 1048576 := of_decide_eq_true hk
    simp only [Rows.uptoBulkAll, Rows.uptoBulk] at hb
    rw [size_list, size_list] at hb
    omega
  simp only [List.append_nil] at hW'
  refine (takes_any s0 s1 W hbk (lexV_of hL' hS)).mono fun e W' ⟨he, bel⟩ => ?_
  subst he
  exact ⟨_, rfl, _, _, _, [], _, [], hW', trodAll_mk1 (shut_bool Tryz.underlying4 _), (trodAll_mk2 (Go.ChangeMaps.shut_string Tryz.underlying9 b0) (Go.ChangeMaps.shut_string Tryz.underlying9 b1)), rfl, bel.frame _, fun h => by cases h⟩

theorem lexTakesUpto_holds : Rows.LexTakesUptoSaid :=
  OpenClaim.holds_of_cond 3 Tryz.f3 rfl rfl rfl rfl rfl rfl rfl ⟨rfl, rfl, rfl, rfl, rfl⟩ rfl rfl rfl rfl rfl (by kernel_rfl) Tryz.func3 (by kernel_rfl)
    (of_decide_eq_true (by kernel_rfl)) (by unfold Func.isWrapper; first | (rw [if_pos (by decide +kernel)]; kernel_rfl) | (rw [if_neg (by decide +kernel)]; exact ⟨rfl, rfl⟩))
    (fun os started H enc _ F => by rw [OpenClaim.pre_eq_preRow]; exact lexTakesUpto_lifted os started H enc F)

theorem lexTakesUpto_card_holds : Rows.LexTakesUptoCardSaid :=
  Claim7.holds_tied_plain_at .later [] _ _ _ _ lexTakesUpto_holds (fun _ h => by cases h) (by kernel_rfl) (fun _ h => by cases h) lexTakesUpto_row_tie rfl ⟨rfl, rfl⟩ (by kernel_rfl) rfl
    (fun f fn hf hfn => by
      obtain rfl : f = 3 := Option.some.inj ((show Tryz.prog.funcNamed "freshet/freshetlaw04.LexTakes" = some 3 by kernel_rfl).symm.trans hf) |>.symm
      obtain rfl : fn = Tryz.f3 := (Option.some.inj (Tryz.func3.symm.trans hfn)).symm
      exact ⟨by kernel_rfl, fun j t ht => by
        rw [Tryz.params3] at ht
        have hm : t ∈ [9, 9] := by simpa using Array.mem_of_getElem? ht
        have hall : ([9, 9].all fun u => !Tryz.prog.wantsStandIn u) = true := by kernel_rfl
        exact (show Tryz.prog.wantsStandIn t = false by simpa using List.all_eq_true.1 hall t hm)⟩)
    (by kernel_rfl)

#print axioms lexTakesUpto_card_holds
end Go.Proofs.YtlmjijiepnefdaaGreatDoor
