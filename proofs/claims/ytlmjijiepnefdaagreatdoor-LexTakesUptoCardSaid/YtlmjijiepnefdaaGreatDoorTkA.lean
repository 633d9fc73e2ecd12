/-
  The contract of the reference's blanks.
-/
import Derived.Test.YtlmjijiepnefdaaGreatDoorRefN
namespace Go.Proofs.YtlmjijiepnefdaaGreatDoor
open Go.RowKit

theorem gap_line {l : List UInt8} (h : Lib.hasPrefix l [45, 45] = true) : gapN l = runN lineB l + gapN (l.drop (runN lineB l)) := by
  obtain ⟨r, rfl⟩ := hasPrefix_cons h
  have h0 : runN blankB (45 :: 45 :: r) = 0 := rfl
  conv => lhs; unfold gapN
  rw [h0, List.drop_zero, gapT_yes h]
  unfold lineN gapN
  rw [List.drop_drop]; omega
theorem gap_none {c : UInt8} {r : List UInt8} (hc : blankB c = false) (h : Lib.hasPrefix (c :: r) [45, 45] = false) : gapN (c :: r) = 0 := by
  unfold gapN
  rw [runN_cons, if_neg (by rw [hc]; simp), List.drop_zero, gapT_no h]
theorem drop_cons (s : ByteArray) (k : Nat) (h : k < s.size) : s.data.toList.drop k = s[k] :: s.data.toList.drop (k + 1) := by
  rw [List.drop_eq_getElem_cons (by rw [size_list]; exact h)]; rfl
theorem gap_nil : gapN [] = 0 := Nat.le_zero.1 (gapN_le [])

set_option maxHeartbeats 4000000 in
set_option maxRecDepth 100000 in
theorem refBlanks_any (s : ByteArray) (at0 : Nat) (w : World) (hs : s.size ≤ 4000) (ha : at0 ≤ s.size) : Calls Tryz.prog 22 #[.string s, .int .i64 at0] w fun e w' => e = .returned (.int .i64 ((at0 + gapN (s.data.toList.drop at0) : Nat) : Int)) ∧ w' = w := by
  obtain ⟨G, hG⟩ : ∃ G, G = at0 + gapN (s.data.toList.drop at0) := ⟨_, rfl⟩
  have HG0 := Lib.hid hG
  rw [← hG]
  clear hG
  go_enter Tryz.func22, Tryz.ntmps22
  go_wp2_with fail
  go_loopw [1] (fun i wr => ∃ k : Nat, i = .int .i64 k ∧ k ≤ s.size ∧ wr = w ∧ Hid (G = k + gapN (s.data.toList.drop k))) (fun i _ => s.size - (intOf i).toNat)
  case atStart => exact ⟨at0, rfl, ha, rfl, HG0⟩
  case round =>
    obtain ⟨k, rfl, hk, rfl, HG⟩ := hrel
    by_cases hlt : k < s.size
    · have HD := Lib.hid (drop_cons s k hlt)
      obtain ⟨x, hx⟩ : ∃ x : UInt8, s[k] = x := ⟨_, rfl⟩
      obtain ⟨c, hc⟩ : ∃ c : Nat, s[k].toNat = c := ⟨_, rfl⟩
      have hc1 : c < 256 := hc ▸ UInt8.toNat_lt _
      have HX : Hid (x.toNat = c) := by unfold Hid; rw [← hx]; exact hc
      rw [hx] at HD
      clear hx
      by_cases hb : c = 32 ∨ c = 9 ∨ c = 10 ∨ c = 13
      · have HB : Hid (blankB x = true) := by
          have hx2 : x = 32 ∨ x = 9 ∨ x = 10 ∨ x = 13 := by
            rcases hb with h | h | h | h
            · exact .inl (UInt8.toNat_inj.1 (HX.out.trans h))
            · exact .inr (.inl (UInt8.toNat_inj.1 (HX.out.trans h)))
            · exact .inr (.inr (.inl (UInt8.toNat_inj.1 (HX.out.trans h))))
            · exact .inr (.inr (.inr (UInt8.toNat_inj.1 (HX.out.trans h))))
          rcases hx2 with rfl | rfl | rfl | rfl <;> (unfold Hid; decide)
        have HG2 : Hid (G = (k + 1) + gapN (s.data.toList.drop (k + 1))) := by
          have h1 := HG.out
          have h2 := gap_blank HB.out (s.data.toList.drop (k + 1))
          rw [HD.out] at h1
          unfold Hid; omega
        clear HX
        rcases hb with rfl | rfl | rfl | rfl
        all_goals
          go_wp2_with fail
          go_roundw
          case rel => exact ⟨k + 1, by go_num, by omega, by trivial, HG2⟩
          case measure => simp [intOf]; omega
      · have q1 : ((c : Int) == 32) = false := by simp; omega
        have q2 : ((c : Int) == 9) = false := by simp; omega
        have q3 : ((c : Int) == 10) = false := by simp; omega
        have q4 : ((c : Int) == 13) = false := by simp; omega
        have HB : Hid (blankB x = false) := by
          have h : ∀ x : UInt8, ¬ (x.toNat = 32 ∨ x.toNat = 9 ∨ x.toNat = 10 ∨ x.toNat = 13) → blankB x = false := u8_all _ (by decide +kernel)
          exact h x (by rw [HX.out]; exact hb)
        clear hb
        by_cases h45 : c = 45
        · have hx45 : x = 45 := UInt8.toNat_inj.1 (HX.out.trans h45)
          subst hx45
          subst h45
          clear HX
          by_cases hk1 : k + 1 < s.size
          · have HD2 := Lib.hid (drop_cons s (k + 1) hk1)
            obtain ⟨y, hy⟩ : ∃ y : UInt8, s[k + 1] = y := ⟨_, rfl⟩
            obtain ⟨d, hd⟩ : ∃ d : Nat, s[k + 1].toNat = d := ⟨_, rfl⟩
            have hd1 : d < 256 := hd ▸ UInt8.toNat_lt _
            have HY : Hid (y.toNat = d) := by unfold Hid; rw [← hy]; exact hd
            rw [hy] at HD2
            clear hy
            by_cases hd45 : d = 45
            · have hy45 : y = 45 := UInt8.toNat_inj.1 (HY.out.trans hd45)
              subst hy45
              subst hd45
              clear HY
              have HP : Hid (Lib.hasPrefix (s.data.toList.drop k) [45, 45] = true) := by
                unfold Hid; rw [HD.out, HD2.out]; simp [Lib.hasPrefix, List.isPrefixOf]
              have HLn : Hid (2 ≤ runN lineB (s.data.toList.drop k)) := by
                unfold Hid; rw [HD.out, HD2.out, runN_cons, if_pos (by decide), runN_cons, if_pos (by decide)]; omega
              go_wp2_with fail
              go_loopw [1] (fun i wq => ∃ j : Nat, i = .int .i64 j ∧ k ≤ j ∧ j ≤ s.size ∧ wq = wr ∧ Hid (runN lineB (s.data.toList.drop k) = (j - k) + runN lineB (s.data.toList.drop j))) (fun i _ => s.size - (intOf i).toNat)
              case atStart => exact ⟨k, rfl, Nat.le_refl _, hk, rfl, by unfold Hid; omega⟩
              case round =>
                obtain ⟨j, rfl, hkj, hj, rfl, HR⟩ := hrel
                clear q1 q2 q3 q4 hc hd hc1 hd1
                by_cases hjl : j < s.size
                · have HD3 := Lib.hid (drop_cons s j hjl)
                  obtain ⟨z, hz⟩ : ∃ z : UInt8, s[j] = z := ⟨_, rfl⟩
                  obtain ⟨d, hd⟩ : ∃ d : Nat, s[j].toNat = d := ⟨_, rfl⟩
                  have hd1 : d < 256 := hd ▸ UInt8.toNat_lt _
                  have HZ : Hid (z.toNat = d) := by unfold Hid; rw [← hz]; exact hd
                  rw [hz] at HD3
                  clear hz
                  by_cases h10 : d = 10
                  · have HE : Hid (runN lineB (s.data.toList.drop j) = 0) := by
                      have hz10 : z = 10 := UInt8.toNat_inj.1 (HZ.out.trans h10)
                      unfold Hid; rw [HD3.out, hz10, runN_cons, if_neg (by decide)]
                    subst h10
                    clear HZ
                    go_wp2_with fail
                    have h1 := HR.out
                    have h2 := HE.out
                    have h3 := HLn.out
                    have h4 := HG.out
                    have h5 := gap_line HP.out
                    rw [List.drop_drop] at h5
                    have h6 : k + runN lineB (s.data.toList.drop k) = j := by omega
                    rw [h6] at h5
                    refine ⟨⟨j, rfl, hj, by trivial, by unfold Hid; omega⟩, by simp [intOf]; omega⟩
                  · have hdb : ((d : Int) == 10) = false := by simp; omega
                    have hdb2 : ((d : Int) != 10) = true := by simp; omega
                    have HE : Hid (runN lineB (s.data.toList.drop j) = 1 + runN lineB (s.data.toList.drop (j + 1))) := by
                      have : z ≠ 10 := fun e => h10 (by rw [← HZ.out, e]; rfl)
                      unfold Hid; rw [HD3.out, runN_cons, if_pos (by simp [lineB, this])]; omega
                    clear HZ h10
                    go_wp2_with fail
                    go_roundw
                    case rel => exact ⟨j + 1, by go_num, by omega, by omega, by trivial, by have h1 := HR.out; have h2 := HE.out; unfold Hid; omega⟩
                    case measure => simp [intOf]; omega
                · obtain rfl : j = s.size := by omega
                  have HE : Hid (runN lineB (s.data.toList.drop s.size) = 0) := by
                    unfold Hid; rw [List.drop_eq_nil_of_le (by rw [size_list]; exact Nat.le_refl _)]; rfl
                  go_wp2_with fail
                  have h1 := HR.out
                  have h2 := HE.out
                  have h3 := HLn.out
                  have h4 := HG.out
                  have h5 := gap_line HP.out
                  rw [List.drop_drop] at h5
                  have h6 : k + runN lineB (s.data.toList.drop k) = s.size := by omega
                  rw [h6] at h5
                  refine ⟨⟨s.size, rfl, Nat.le_refl _, by trivial, by unfold Hid; omega⟩, by simp [intOf]; omega⟩
            · have hdb : ((d : Int) == 45) = false := by simp; omega
              have hdb2 : ((d : Int) != 45) = true := by simp; omega
              have HF : Hid (gapN (s.data.toList.drop k) = 0) := by
                unfold Hid
                rw [HD.out]
                refine gap_none HB.out ?_
                rw [HD2.out]
                have : (45 : UInt8) ≠ y := fun e => hd45 (by rw [← HY.out, ← e]; rfl)
                simp [Lib.hasPrefix, List.isPrefixOf, this]
              clear HY hd45
              go_wp2_with fail
              go_ret
              exact ⟨by rw [HG.out, HF.out]; rfl, rfl⟩
          · have HF : Hid (gapN (s.data.toList.drop k) = 0) := by
              unfold Hid
              rw [HD.out]
              refine gap_none HB.out ?_
              rw [List.drop_eq_nil_of_le (by rw [size_list]; omega)]
              decide
            go_wp2_with fail
            go_ret
            exact ⟨by rw [HG.out, HF.out]; rfl, rfl⟩
        · have h45b : ((c : Int) == 45) = false := by simp; omega
          have h45c : ((c : Int) != 45) = true := by simp; omega
          have HF : Hid (gapN (s.data.toList.drop k) = 0) := by
            unfold Hid
            rw [HD.out]
            refine gap_none HB.out ?_
            have : (45 : UInt8) ≠ x := fun e => h45 (by rw [← HX.out, ← e]; rfl)
            simp [Lib.hasPrefix, List.isPrefixOf, this]
          clear HX h45
          go_wp2_with fail
          go_ret
          exact ⟨by rw [HG.out, HF.out]; rfl, rfl⟩
    · obtain rfl : k = s.size := by omega
      have HF : Hid (gapN (s.data.toList.drop s.size) = 0) := by
        unfold Hid
        rw [List.drop_eq_nil_of_le (by rw [size_list]; exact Nat.le_refl _)]
        exact gap_nil
      go_wp2_with fail
      go_ret
      exact ⟨by rw [HG.out, HF.out]; rfl, rfl⟩

end Go.Proofs.YtlmjijiepnefdaaGreatDoor

/-
  The contracts of the reference's wrong, and of its names.
-/
namespace Go.Proofs.YtlmjijiepnefdaaGreatDoor
open Go.RowKit

/-- What the reference's readers tell: a token and the place behind it; or an error, and its place. -/
def wrongC (e : Int) (p : Int) : Array Value := #[.int .i64 0, .string ⟨#[]⟩, .int .i64 0, .int .i64 0, .string ⟨#[]⟩, .int .i64 0, .int .i64 0, .int .i64 e, .int .i64 p, .bool false]
def gotC (t : Tok) (at0 p : Int) : Array Value := #[.int .i64 t.k, .string ⟨t.s.toArray⟩, .int .i64 t.dk, .int .i64 t.di, .string ⟨t.ds.toArray⟩, .int .i64 at0, .int .i64 p, .int .i64 0, .int .i64 0, .bool false]
def GotPost (r : Tok × Nat × Int) (at0 : Nat) (w : World) (e : Ending) (w' : World) : Prop :=
  e = .returned (.agg (if r.2.2 = 0 then gotC r.1 at0 ((at0 + r.2.1 : Nat) : Int) else wrongC r.2.2 ((at0 + r.2.1 : Nat) : Int))) ∧ Below w.heap.size w w'

theorem wrong_any (e p : Int) (w : World) : Calls Tryz.prog 62 #[.int .i64 e, .int .i64 p] w fun x w' => x = .returned (.agg (wrongC e p)) ∧ Below w.heap.size w w' := by
  unfold wrongC
  go_enter Tryz.func62, Tryz.ntmps62
  go_wp2
  refine bodyPost_ret (v := .agg #[.int .i64 0, .string ⟨#[]⟩, .int .i64 0, .int .i64 0, .string ⟨#[]⟩, .int .i64 0, .int .i64 0, .int .i64 e, .int .i64 p, .bool false]) (by simp [results, Tryz.results62, go_sem]) rfl ⟨rfl, (Below.refl _ _).alloc (Nat.le_refl _) _⟩
theorem got_bad {r : Tok × Nat × Int} {at0 : Nat} {e : Int} {n : Nat} (h : r = (Tok.zero, n, e)) (he : e ≠ 0) : (if r.2.2 = 0 then gotC r.1 at0 ((at0 + r.2.1 : Nat) : Int) else wrongC r.2.2 ((at0 + r.2.1 : Nat) : Int)) = wrongC e ((at0 + n : Nat) : Int) := by
  rw [h]; exact if_neg he
theorem got_ok {r : Tok × Nat × Int} {at0 : Nat} {t : Tok} {n : Nat} (h : r = (t, n, 0)) : (if r.2.2 = 0 then gotC r.1 at0 ((at0 + r.2.1 : Nat) : Int) else wrongC r.2.2 ((at0 + r.2.1 : Nat) : Int)) = gotC t at0 ((at0 + n : Nat) : Int) := by
  rw [h]; exact if_pos rfl
theorem take_ext (s : ByteArray) (a n : Nat) : (s.extract a (a + n)).data.toList = (s.data.toList.drop a).take n := by
  rw [Lib.extract_data, show a + n - a = n by omega]

set_option maxHeartbeats 4000000 in
set_option maxRecDepth 100000 in
theorem refNameT_any (s : ByteArray) (at0 : Nat) (w : World) (hs : s.size ≤ 4000) (ha : at0 ≤ s.size) : Calls Tryz.prog 42 #[.string s, .int .i64 at0] w (GotPost (nameR (s.data.toList.drop at0)) at0 w) := by
  have b0 := (Below.refl w.heap.size w).alloc (Nat.le_refl _) (.cells (wrongC 0 0) 48)
  have bX0 : Blk (w.alloc (.cells (wrongC 0 0) 48)) w.heap.size (wrongC 0 0) 48 := Blk.new _ _ _
  unfold wrongC at b0 bX0
  go_enter Tryz.func42, Tryz.ntmps42
  go_wp2_with fail
  generalize w.alloc (.cells #[.int .i64 0, .string ⟨#[]⟩, .int .i64 0, .int .i64 0, .string ⟨#[]⟩, .int .i64 0, .int .i64 0, .int .i64 0, .int .i64 0, .bool false] 48) = w1 at *
  have HB0 := Lib.hid b0
  have HX0 := Lib.hid bX0
  clear b0 bX0
  go_loopw [5] (fun i wr => ∃ j : Nat, i = .int .i64 j ∧ at0 ≤ j ∧ j ≤ s.size ∧ wr = w1 ∧ Hid (runN nameB (s.data.toList.drop at0) = (j - at0) + runN nameB (s.data.toList.drop j))) (fun i _ => s.size - (intOf i).toNat)
  case atStart => exact ⟨at0, rfl, Nat.le_refl _, ha, rfl, by unfold Hid; omega⟩
  case round =>
    obtain ⟨j, rfl, haj, hj, rfl, HR⟩ := hrel
    by_cases hlt : j < s.size
    · have HD := Lib.hid (drop_cons s j hlt)
      cases hl : letterB s[j] with
      | true =>
        have HL := Lib.hid hl
        have HN : Hid (runN nameB (s.data.toList.drop j) = 1 + runN nameB (s.data.toList.drop (j + 1))) := by
          unfold Hid; rw [HD.out, runN_cons, if_pos (letter_name _ hl)]; omega
        clear hl
        go_wp2_with (go_at_call 27; (with_reducible refine (refLetter_any _ _).mono ?_); rintro e w'' ⟨rfl, rfl⟩; rw [HL.out])
        go_roundw
        case rel => exact ⟨j + 1, by go_num, by omega, by omega, by trivial, by have h1 := HR.out; have h2 := HN.out; unfold Hid; omega⟩
        case measure => simp [intOf]; omega
      | false =>
        have HL := Lib.hid hl
        cases hd : digitB s[j] with
        | true =>
          have HDg := Lib.hid hd
          have HN : Hid (runN nameB (s.data.toList.drop j) = 1 + runN nameB (s.data.toList.drop (j + 1))) := by
            unfold Hid; rw [HD.out, runN_cons, if_pos (by unfold nameB; rw [hl, hd]; rfl)]; omega
          clear hl hd
          go_wp2_with (first
            | (go_at_call 27; (with_reducible refine (refLetter_any _ _).mono ?_); rintro e w'' ⟨rfl, rfl⟩; rw [HL.out])
            | (go_at_call 28; (with_reducible refine (refDigit_any _ _).mono ?_); rintro e w'' ⟨rfl, rfl⟩; rw [HDg.out]))
          go_roundw
          case rel => exact ⟨j + 1, by go_num, by omega, by omega, by trivial, by have h1 := HR.out; have h2 := HN.out; unfold Hid; omega⟩
          case measure => simp [intOf]; omega
        | false =>
          have HDg := Lib.hid hd
          have HN : Hid (runN nameB (s.data.toList.drop j) = 0) := by
            unfold Hid; rw [HD.out, runN_cons, if_neg (by unfold nameB; rw [hl, hd]; simp)]
          clear hl hd
          have HRun : Hid (runN nameB (s.data.toList.drop at0) = j - at0) := by have h1 := HR.out; have h2 := HN.out; unfold Hid; omega
          obtain ⟨n, hn⟩ : ∃ n, n = j - at0 := ⟨_, rfl⟩
          rw [← hn] at HRun
          have hjn : j = at0 + n := by omega
          have hnl : n ≤ 4000 := by omega
          have HRR : Hid (nameR (s.data.toList.drop at0) = if 20 < n then (Tok.zero, 0, 2) else if isWord (Lib.toUpperA ((s.data.toList.drop at0).take n)) then (⟨2, Lib.toUpperA ((s.data.toList.drop at0).take n), 0, 0, []⟩, n, 0) else (⟨1, Lib.toLowerA ((s.data.toList.drop at0).take n), 0, 0, []⟩, n, 0)) := by unfold Hid nameR; rw [HRun.out]
          have hX : (s.extract at0 j).data.toList = (s.data.toList.drop at0).take n := by rw [hjn, take_ext]
          have hXs : (s.extract at0 j).size = n := by rw [← size_list, hX, List.length_take, List.length_drop, size_list]; omega
          have hji : ((j - at0 : Nat) : Int) = (n : Int) := by omega
          have HT := Lib.hid (And.intro hjn (And.intro hX hji))
          clear HRun hjn hX HR HN hn
          by_cases h20 : 20 < n
          · have HQ := Lib.hid (got_bad (at0 := at0) (HRR.out.trans (if_pos h20)) (by decide))
            have h20i : (20 : Int) < ((j - at0 : Nat) : Int) := by omega
            go_wp2_with (first
            | (go_at_call 27; (with_reducible refine (refLetter_any _ _).mono ?_); rintro e w'' ⟨rfl, rfl⟩; rw [HL.out])
            | (go_at_call 28; (with_reducible refine (refDigit_any _ _).mono ?_); rintro e w'' ⟨rfl, rfl⟩; rw [HDg.out]))
            refine (wrong_any _ _ _).mono ?_
            rintro e w2 ⟨rfl, b2⟩
            have hb2 := HB0.out.trans (b2.mono HB0.out.size)
            have bY := HX0.out.below b2
            have y0 := bY.cell 0
            have y1 := bY.cell 1
            have y2 := bY.cell 2
            have y3 := bY.cell 3
            have y4 := bY.cell 4
            have y5 := bY.cell 5
            have y6 := bY.cell 6
            have y7 := bY.cell 7
            have y8 := bY.cell 8
            have y9 := bY.cell 9
            simp only [List.getElem?_toArray, List.getElem?_cons_zero, List.getElem?_cons_succ] at y0 y1 y2 y3 y4 y5 y6 y7 y8 y9
            have f0 := bY.frozen 0
            have f1 := bY.frozen 1
            have f2 := bY.frozen 2
            have f3 := bY.frozen 3
            have f4 := bY.frozen 4
            have f5 := bY.frozen 5
            have f6 := bY.frozen 6
            have f7 := bY.frozen 7
            have f8 := bY.frozen 8
            have f9 := bY.frozen 9
            clear bY b2
            unfold wrongC
            go_wp2_with fail
            unfold GotPost
            rw [HQ.out]
            refine bodyPost_ret ?_ rfl ⟨rfl, ?_⟩
            · simp [results, Tryz.results42, go_sem, wrongC, y0, y1, y2, y3, y4, y5, y6, y7, y8, y9]
            · exact (((((((((hb2.setCell (Nat.le_refl _) _).setCell (Nat.le_refl _) _).setCell (Nat.le_refl _) _).setCell (Nat.le_refl _) _).setCell (Nat.le_refl _) _).setCell (Nat.le_refl _) _).setCell (Nat.le_refl _) _).setCell (Nat.le_refl _) _).setCell (Nat.le_refl _) _).setCell (Nat.le_refl _) _
          · have hR2 := HRR.out.trans (if_neg h20)
            have HRR2 := Lib.hid hR2
            have h20i : ((j - at0 : Nat) : Int) ≤ 20 := by omega
            clear hR2 HRR
            go_wp2_with (first
            | (go_at_call 27; (with_reducible refine (refLetter_any _ _).mono ?_); rintro e w'' ⟨rfl, rfl⟩; rw [HL.out])
            | (go_at_call 28; (with_reducible refine (refDigit_any _ _).mono ?_); rintro e w'' ⟨rfl, rfl⟩; rw [HDg.out]))
            refine (refUpper_any _ _ (by omega)).mono ?_
            rintro e w2 ⟨rfl, b2⟩
            rw [HT.out.2.1]
            have hb2 := HB0.out.trans (b2.mono HB0.out.size)
            have HY2 := Lib.hid (HX0.out.below b2)
            clear b2
            go_wp2_with fail
            have hup : (⟨(Lib.toUpperA ((s.data.toList.drop at0).take n)).toArray⟩ : ByteArray).size ≤ 140737488350000 := by
              show (Lib.toUpperA ((s.data.toList.drop at0).take n)).length ≤ _
              unfold Lib.toUpperA
              rw [List.length_map, List.length_take]; omega
            refine (refWord_any _ _ hup).mono ?_
            rintro e w3 ⟨rfl, rfl⟩
            have e0 : (⟨(Lib.toUpperA ((s.data.toList.drop at0).take n)).toArray⟩ : ByteArray).data.toList = Lib.toUpperA ((s.data.toList.drop at0).take n) := rfl
            rw [e0]
            cases hw : isWord (Lib.toUpperA ((s.data.toList.drop at0).take n)) with
            | true =>
              have HQ := Lib.hid (got_ok (at0 := at0) (HRR2.out.trans (if_pos hw)))
              clear hw HRR2
              go_wp2_with fail
              refine (refUpper_any _ _ (by omega)).mono ?_
              rintro e w4 ⟨rfl, b4⟩
              rw [HT.out.2.1]
              have hb4 := hb2.trans (b4.mono hb2.size)
              have bY := HY2.out.below b4
              have y0 := bY.cell 0
              have y1 := bY.cell 1
              have y2 := bY.cell 2
              have y3 := bY.cell 3
              have y4 := bY.cell 4
              have y5 := bY.cell 5
              have y6 := bY.cell 6
              have y7 := bY.cell 7
              have y8 := bY.cell 8
              have y9 := bY.cell 9
              simp only [List.getElem?_toArray, List.getElem?_cons_zero, List.getElem?_cons_succ] at y0 y1 y2 y3 y4 y5 y6 y7 y8 y9
              have f0 := bY.frozen 0
              have f1 := bY.frozen 1
              have f2 := bY.frozen 2
              have f3 := bY.frozen 3
              have f4 := bY.frozen 4
              have f5 := bY.frozen 5
              have f6 := bY.frozen 6
              have f7 := bY.frozen 7
              have f8 := bY.frozen 8
              have f9 := bY.frozen 9
              clear bY b4
              go_wp2_with fail
              unfold GotPost
              rw [HQ.out, ← HT.out.1]
              refine bodyPost_ret ?_ rfl ⟨rfl, ?_⟩
              · simp [results, Tryz.results42, go_sem, gotC, y0, y1, y2, y3, y4, y5, y6, y7, y8, y9]
              · exact (((((((((hb4.setCell (Nat.le_refl _) _).setCell (Nat.le_refl _) _).setCell (Nat.le_refl _) _).setCell (Nat.le_refl _) _).setCell (Nat.le_refl _) _).setCell (Nat.le_refl _) _).setCell (Nat.le_refl _) _).setCell (Nat.le_refl _) _).setCell (Nat.le_refl _) _).setCell (Nat.le_refl _) _
            | false =>
              have HQ := Lib.hid (got_ok (at0 := at0) (HRR2.out.trans (if_neg (by rw [hw]; simp))))
              clear hw HRR2
              go_wp2_with fail
              refine (refLower_any _ _ (by omega)).mono ?_
              rintro e w4 ⟨rfl, b4⟩
              rw [HT.out.2.1]
              have hb4 := hb2.trans (b4.mono hb2.size)
              have bY := HY2.out.below b4
              have y0 := bY.cell 0
              have y1 := bY.cell 1
              have y2 := bY.cell 2
              have y3 := bY.cell 3
              have y4 := bY.cell 4
              have y5 := bY.cell 5
              have y6 := bY.cell 6
              have y7 := bY.cell 7
              have y8 := bY.cell 8
              have y9 := bY.cell 9
              simp only [List.getElem?_toArray, List.getElem?_cons_zero, List.getElem?_cons_succ] at y0 y1 y2 y3 y4 y5 y6 y7 y8 y9
              have f0 := bY.frozen 0
              have f1 := bY.frozen 1
              have f2 := bY.frozen 2
              have f3 := bY.frozen 3
              have f4 := bY.frozen 4
              have f5 := bY.frozen 5
              have f6 := bY.frozen 6
              have f7 := bY.frozen 7
              have f8 := bY.frozen 8
              have f9 := bY.frozen 9
              clear bY b4
              go_wp2_with fail
              unfold GotPost
              rw [HQ.out, ← HT.out.1]
              refine bodyPost_ret ?_ rfl ⟨rfl, ?_⟩
              · simp [results, Tryz.results42, go_sem, gotC, y0, y1, y2, y3, y4, y5, y6, y7, y8, y9]
              · exact (((((((((hb4.setCell (Nat.le_refl _) _).setCell (Nat.le_refl _) _).setCell (Nat.le_refl _) _).setCell (Nat.le_refl _) _).setCell (Nat.le_refl _) _).setCell (Nat.le_refl _) _).setCell (Nat.le_refl _) _).setCell (Nat.le_refl _) _).setCell (Nat.le_refl _) _).setCell (Nat.le_refl _) _
    · obtain rfl : j = s.size := by omega
      have HN : Hid (runN nameB (s.data.toList.drop s.size) = 0) := by
        unfold Hid; rw [List.drop_eq_nil_of_le (by rw [size_list]; exact Nat.le_refl _)]; rfl
      have HRun : Hid (runN nameB (s.data.toList.drop at0) = s.size - at0) := by have h1 := HR.out; have h2 := HN.out; unfold Hid; omega
      obtain ⟨n, hn⟩ : ∃ n, n = s.size - at0 := ⟨_, rfl⟩
      rw [← hn] at HRun
      have hjn : s.size = at0 + n := by omega
      have hnl : n ≤ 4000 := by omega
      have HRR : Hid (nameR (s.data.toList.drop at0) = if 20 < n then (Tok.zero, 0, 2) else if isWord (Lib.toUpperA ((s.data.toList.drop at0).take n)) then (⟨2, Lib.toUpperA ((s.data.toList.drop at0).take n), 0, 0, []⟩, n, 0) else (⟨1, Lib.toLowerA ((s.data.toList.drop at0).take n), 0, 0, []⟩, n, 0)) := by unfold Hid nameR; rw [HRun.out]
      have hX : (s.extract at0 s.size).data.toList = (s.data.toList.drop at0).take n := by rw [hjn, take_ext]
      have hXs : (s.extract at0 s.size).size = n := by rw [← size_list, hX, List.length_take, List.length_drop, size_list]; omega
      have hji : ((s.size - at0 : Nat) : Int) = (n : Int) := by omega
      have HT := Lib.hid (And.intro hjn (And.intro hX hji))
      clear HRun hjn hX HR HN hn
      by_cases h20 : 20 < n
      · have HQ := Lib.hid (got_bad (at0 := at0) (HRR.out.trans (if_pos h20)) (by decide))
        have h20i : (20 : Int) < ((s.size - at0 : Nat) : Int) := by omega
        go_wp2_with fail
        refine (wrong_any _ _ _).mono ?_
        rintro e w2 ⟨rfl, b2⟩
        have hb2 := HB0.out.trans (b2.mono HB0.out.size)
        have bY := HX0.out.below b2
        have y0 := bY.cell 0
        have y1 := bY.cell 1
        have y2 := bY.cell 2
        have y3 := bY.cell 3
        have y4 := bY.cell 4
        have y5 := bY.cell 5
        have y6 := bY.cell 6
        have y7 := bY.cell 7
        have y8 := bY.cell 8
        have y9 := bY.cell 9
        simp only [List.getElem?_toArray, List.getElem?_cons_zero, List.getElem?_cons_succ] at y0 y1 y2 y3 y4 y5 y6 y7 y8 y9
        have f0 := bY.frozen 0
        have f1 := bY.frozen 1
        have f2 := bY.frozen 2
        have f3 := bY.frozen 3
        have f4 := bY.frozen 4
        have f5 := bY.frozen 5
        have f6 := bY.frozen 6
        have f7 := bY.frozen 7
        have f8 := bY.frozen 8
        have f9 := bY.frozen 9
        clear bY b2
        unfold wrongC
        go_wp2_with fail
        unfold GotPost
        rw [HQ.out]
        refine bodyPost_ret ?_ rfl ⟨rfl, ?_⟩
        · simp [results, Tryz.results42, go_sem, wrongC, y0, y1, y2, y3, y4, y5, y6, y7, y8, y9]
        · exact (((((((((hb2.setCell (Nat.le_refl _) _).setCell (Nat.le_refl _) _).setCell (Nat.le_refl _) _).setCell (Nat.le_refl _) _).setCell (Nat.le_refl _) _).setCell (Nat.le_refl _) _).setCell (Nat.le_refl _) _).setCell (Nat.le_refl _) _).setCell (Nat.le_refl _) _).setCell (Nat.le_refl _) _
      · have hR2 := HRR.out.trans (if_neg h20)
        have HRR2 := Lib.hid hR2
        have h20i : ((s.size - at0 : Nat) : Int) ≤ 20 := by omega
        clear hR2 HRR
        go_wp2_with fail
        refine (refUpper_any _ _ (by omega)).mono ?_
        rintro e w2 ⟨rfl, b2⟩
        rw [HT.out.2.1]
        have hb2 := HB0.out.trans (b2.mono HB0.out.size)
        have HY2 := Lib.hid (HX0.out.below b2)
        clear b2
        go_wp2_with fail
        have hup : (⟨(Lib.toUpperA ((s.data.toList.drop at0).take n)).toArray⟩ : ByteArray).size ≤ 140737488350000 := by
          show (Lib.toUpperA ((s.data.toList.drop at0).take n)).length ≤ _
          unfold Lib.toUpperA
          rw [List.length_map, List.length_take]; omega
        refine (refWord_any _ _ hup).mono ?_
        rintro e w3 ⟨rfl, rfl⟩
        have e0 : (⟨(Lib.toUpperA ((s.data.toList.drop at0).take n)).toArray⟩ : ByteArray).data.toList = Lib.toUpperA ((s.data.toList.drop at0).take n) := rfl
        rw [e0]
        cases hw : isWord (Lib.toUpperA ((s.data.toList.drop at0).take n)) with
        | true =>
          have HQ := Lib.hid (got_ok (at0 := at0) (HRR2.out.trans (if_pos hw)))
          clear hw HRR2
          go_wp2_with fail
          refine (refUpper_any _ _ (by omega)).mono ?_
          rintro e w4 ⟨rfl, b4⟩
          rw [HT.out.2.1]
          have hb4 := hb2.trans (b4.mono hb2.size)
          have bY := HY2.out.below b4
          have y0 := bY.cell 0
          have y1 := bY.cell 1
          have y2 := bY.cell 2
          have y3 := bY.cell 3
          have y4 := bY.cell 4
          have y5 := bY.cell 5
          have y6 := bY.cell 6
          have y7 := bY.cell 7
          have y8 := bY.cell 8
          have y9 := bY.cell 9
          simp only [List.getElem?_toArray, List.getElem?_cons_zero, List.getElem?_cons_succ] at y0 y1 y2 y3 y4 y5 y6 y7 y8 y9
          have f0 := bY.frozen 0
          have f1 := bY.frozen 1
          have f2 := bY.frozen 2
          have f3 := bY.frozen 3
          have f4 := bY.frozen 4
          have f5 := bY.frozen 5
          have f6 := bY.frozen 6
          have f7 := bY.frozen 7
          have f8 := bY.frozen 8
          have f9 := bY.frozen 9
          clear bY b4
          go_wp2_with fail
          unfold GotPost
          rw [HQ.out, ← HT.out.1]
          refine bodyPost_ret ?_ rfl ⟨rfl, ?_⟩
          · simp [results, Tryz.results42, go_sem, gotC, y0, y1, y2, y3, y4, y5, y6, y7, y8, y9]
          · exact (((((((((hb4.setCell (Nat.le_refl _) _).setCell (Nat.le_refl _) _).setCell (Nat.le_refl _) _).setCell (Nat.le_refl _) _).setCell (Nat.le_refl _) _).setCell (Nat.le_refl _) _).setCell (Nat.le_refl _) _).setCell (Nat.le_refl _) _).setCell (Nat.le_refl _) _).setCell (Nat.le_refl _) _
        | false =>
          have HQ := Lib.hid (got_ok (at0 := at0) (HRR2.out.trans (if_neg (by rw [hw]; simp))))
          clear hw HRR2
          go_wp2_with fail
          refine (refLower_any _ _ (by omega)).mono ?_
          rintro e w4 ⟨rfl, b4⟩
          rw [HT.out.2.1]
          have hb4 := hb2.trans (b4.mono hb2.size)
          have bY := HY2.out.below b4
          have y0 := bY.cell 0
          have y1 := bY.cell 1
          have y2 := bY.cell 2
          have y3 := bY.cell 3
          have y4 := bY.cell 4
          have y5 := bY.cell 5
          have y6 := bY.cell 6
          have y7 := bY.cell 7
          have y8 := bY.cell 8
          have y9 := bY.cell 9
          simp only [List.getElem?_toArray, List.getElem?_cons_zero, List.getElem?_cons_succ] at y0 y1 y2 y3 y4 y5 y6 y7 y8 y9
          have f0 := bY.frozen 0
          have f1 := bY.frozen 1
          have f2 := bY.frozen 2
          have f3 := bY.frozen 3
          have f4 := bY.frozen 4
          have f5 := bY.frozen 5
          have f6 := bY.frozen 6
          have f7 := bY.frozen 7
          have f8 := bY.frozen 8
          have f9 := bY.frozen 9
          clear bY b4
          go_wp2_with fail
          unfold GotPost
          rw [HQ.out, ← HT.out.1]
          refine bodyPost_ret ?_ rfl ⟨rfl, ?_⟩
          · simp [results, Tryz.results42, go_sem, gotC, y0, y1, y2, y3, y4, y5, y6, y7, y8, y9]
          · exact (((((((((hb4.setCell (Nat.le_refl _) _).setCell (Nat.le_refl _) _).setCell (Nat.le_refl _) _).setCell (Nat.le_refl _) _).setCell (Nat.le_refl _) _).setCell (Nat.le_refl _) _).setCell (Nat.le_refl _) _).setCell (Nat.le_refl _) _).setCell (Nat.le_refl _) _).setCell (Nat.le_refl _) _

end Go.Proofs.YtlmjijiepnefdaaGreatDoor

/-
  The contracts of the reference's digits, sixteenth and symbol.
-/
namespace Go.Proofs.YtlmjijiepnefdaaGreatDoor
open Go.RowKit

set_option maxHeartbeats 4000000 in
set_option maxRecDepth 100000 in
theorem refDigits_any (s : ByteArray) (at0 : Nat) (w : World) (hs : s.size ≤ 4000) (ha : at0 ≤ s.size) : Calls Tryz.prog 64 #[.string s, .int .i64 at0] w fun e w' => e = .returned (.int .i64 ((at0 + runN digitB (s.data.toList.drop at0) : Nat) : Int)) ∧ w' = w := by
  obtain ⟨G, hG⟩ : ∃ G, G = at0 + runN digitB (s.data.toList.drop at0) := ⟨_, rfl⟩
  have HG0 := Lib.hid hG
  rw [← hG]
  clear hG
  go_enter Tryz.func64, Tryz.ntmps64
  go_wp2_with fail
  go_loopw [1] (fun i wr => ∃ j : Nat, i = .int .i64 j ∧ j ≤ s.size ∧ wr = w ∧ Hid (G = j + runN digitB (s.data.toList.drop j))) (fun i _ => s.size - (intOf i).toNat)
  case atStart => exact ⟨at0, rfl, ha, rfl, HG0⟩
  case round =>
    obtain ⟨j, rfl, hj, rfl, HG⟩ := hrel
    by_cases hlt : j < s.size
    · have HD := Lib.hid (drop_cons s j hlt)
      cases hd : digitB s[j] with
      | true =>
        have HDg := Lib.hid hd
        have HN : Hid (runN digitB (s.data.toList.drop j) = 1 + runN digitB (s.data.toList.drop (j + 1))) := by
          unfold Hid; rw [HD.out, runN_cons, if_pos hd]; omega
        clear hd
        go_wp2_with (go_at_call 28; (with_reducible refine (refDigit_any _ _).mono ?_); rintro e w'' ⟨rfl, rfl⟩; rw [HDg.out])
        go_roundw
        case rel => exact ⟨j + 1, by go_num, by omega, by trivial, by have h1 := HG.out; have h2 := HN.out; unfold Hid; omega⟩
        case measure => simp [intOf]; omega
      | false =>
        have HDg := Lib.hid hd
        have HN : Hid (G = j) := by
          have h1 := HG.out
          rw [HD.out, runN_cons, if_neg (by rw [hd]; simp)] at h1
          unfold Hid; omega
        clear hd
        go_wp2_with (go_at_call 28; (with_reducible refine (refDigit_any _ _).mono ?_); rintro e w'' ⟨rfl, rfl⟩; rw [HDg.out])
        go_ret
        exact ⟨by rw [HN.out]; rfl, rfl⟩
    · obtain rfl : j = s.size := by omega
      have HN : Hid (G = s.size) := by
        have h1 := HG.out
        rw [List.drop_eq_nil_of_le (by rw [size_list]; exact Nat.le_refl _), runN_nil] at h1
        unfold Hid; omega
      go_wp2_with fail
      go_ret
      exact ⟨by rw [HN.out]; rfl, rfl⟩

theorem hex_kinds : ∀ c : UInt8, (hexB c = true ∧ ((48 ≤ c.toNat ∧ c.toNat ≤ 57 ∧ nibV c = c.toNat - 48 ∧ digitB c = true) ∨ (97 ≤ c.toNat ∧ c.toNat ≤ 102 ∧ nibV c = c.toNat - 87 ∧ digitB c = false) ∨ (65 ≤ c.toNat ∧ c.toNat ≤ 70 ∧ nibV c = c.toNat - 55 ∧ digitB c = false))) ∨
    (hexB c = false ∧ digitB c = false ∧ (c.toNat < 65 ∨ (70 < c.toNat ∧ c.toNat < 97) ∨ 102 < c.toNat)) := u8_all _ (by decide +kernel)
set_option maxHeartbeats 4000000 in
set_option maxRecDepth 100000 in
theorem sixteenth_any (x : UInt8) (w : World) : Calls Tryz.prog 63 #[.int .u8 (x.toNat : Int)] w fun e w' => e = .returned (.int .i64 (if hexB x then (nibV x : Int) else -1)) ∧ w' = w := by
  have HK := Lib.hid (hex_kinds x)
  have hD : Hid (∀ w : World, Calls Tryz.prog 28 #[.int .u8 (x.toNat : Int)] w fun e w' => e = .returned (.bool (digitB x)) ∧ w' = w) := fun w => refDigit_any x w
  obtain ⟨c, hc⟩ : ∃ c : Nat, x.toNat = c := ⟨_, rfl⟩
  have hc1 : c < 256 := hc ▸ UInt8.toNat_lt _
  rw [hc] at HK hD ⊢
  clear hc
  generalize hexB x = hb at *
  generalize digitB x = db at *
  generalize nibV x = nv at *
  rcases HK.out with ⟨rfl, ⟨h1, h2, rfl, rfl⟩ | ⟨h1, h2, rfl, rfl⟩ | ⟨h1, h2, rfl, rfl⟩⟩ | ⟨rfl, rfl, h⟩
  · have e1 : ((c - 48 : Nat) : Int) = (c : Int) - 48 := by omega
    rw [if_pos rfl, e1]
    clear HK
    go_enter Tryz.func63, Tryz.ntmps63
    go_wp2_with (go_at_call 28; (with_reducible refine (hD.out _).mono ?_); rintro e w'' ⟨rfl, rfl⟩)
    go_ret
    exact ⟨rfl, rfl⟩
  · have e1 : ((c - 87 : Nat) : Int) = (c : Int) - 97 + 10 := by omega
    rw [if_pos rfl, e1]
    clear HK
    go_enter Tryz.func63, Tryz.ntmps63
    go_wp2_with (go_at_call 28; (with_reducible refine (hD.out _).mono ?_); rintro e w'' ⟨rfl, rfl⟩)
    go_ret
    exact ⟨rfl, rfl⟩
  · have e1 : ((c - 55 : Nat) : Int) = (c : Int) - 65 + 10 := by omega
    rw [if_pos rfl, e1]
    clear HK
    go_enter Tryz.func63, Tryz.ntmps63
    go_wp2_with (go_at_call 28; (with_reducible refine (hD.out _).mono ?_); rintro e w'' ⟨rfl, rfl⟩)
    go_ret
    exact ⟨rfl, rfl⟩
  · rw [if_neg (by simp)]
    clear HK
    rcases h with h | ⟨h1, h2⟩ | h
    all_goals
      go_enter Tryz.func63, Tryz.ntmps63
      go_wp2_with (go_at_call 28; (with_reducible refine (hD.out _).mono ?_); rintro e w'' ⟨rfl, rfl⟩)
      go_ret
      exact ⟨rfl, rfl⟩

/-! ### symbols -/
def onesL : List UInt8 := [40, 41, 44, 46, 59, 42, 43, 45, 47, 61, 60, 62]
theorem sym_two (x y : UInt8) (r : List UInt8) (h : (x = 60 ∧ y = 61) ∨ (x = 62 ∧ y = 61) ∨ (x = 60 ∧ y = 62)) : symR (x :: y :: r) = (⟨4, [x, y], 0, 0, []⟩, 2, 0) := by
  rcases h with ⟨rfl, rfl⟩ | ⟨rfl, rfl⟩ | ⟨rfl, rfl⟩ <;> simp [symR, syms, Lib.hasPrefix, List.isPrefixOf]
theorem sym_one (x : UInt8) (r : List UInt8) (h : ∀ y r', r = y :: r' → ¬ ((x = 60 ∧ y = 61) ∨ (x = 62 ∧ y = 61) ∨ (x = 60 ∧ y = 62))) (hx : x ∈ onesL) : symR (x :: r) = (⟨4, [x], 0, 0, []⟩, 1, 0) := by
  have h1 : ∀ y : UInt8, Lib.hasPrefix r [y] = true → ∃ r', r = y :: r' := by
    intro y hy
    cases r with
    | nil => simp [Lib.hasPrefix] at hy
    | cons z r =>
      have : y = z := by simpa [Lib.hasPrefix, List.isPrefixOf] using hy
      exact ⟨r, by rw [this]⟩
  have h2 : x = 60 → Lib.hasPrefix r [61] = false ∧ Lib.hasPrefix r [62] = false := by
    intro e
    constructor
    · rw [Bool.eq_false_iff]; intro hp; obtain ⟨r', hr⟩ := h1 61 hp; exact h 61 r' hr (.inl ⟨e, rfl⟩)
    · rw [Bool.eq_false_iff]; intro hp; obtain ⟨r', hr⟩ := h1 62 hp; exact h 62 r' hr (.inr (.inr ⟨e, rfl⟩))
  have h3 : x = 62 → Lib.hasPrefix r [61] = false := by
    intro e
    rw [Bool.eq_false_iff]; intro hp; obtain ⟨r', hr⟩ := h1 61 hp; exact h 61 r' hr (.inr (.inl ⟨e, rfl⟩))
  have hp2 : ∀ a b : UInt8, Lib.hasPrefix (x :: r) [a, b] = ((a == x) && Lib.hasPrefix r [b]) := fun a b => rfl
  have hp1 : ∀ a : UInt8, Lib.hasPrefix (x :: r) [a] = (a == x) := fun a => by simp [Lib.hasPrefix, List.isPrefixOf]
  unfold symR syms
  simp only [List.find?_cons, hp1, hp2]
  simp only [onesL, List.mem_cons, List.not_mem_nil, or_false] at hx
  rcases hx with rfl | rfl | rfl | rfl | rfl | rfl | rfl | rfl | rfl | rfl | rfl | rfl
  all_goals first | rfl | (rw [(h2 rfl).1, (h2 rfl).2]; rfl) | (rw [h3 rfl]; rfl)
theorem sym_none (x : UInt8) (r : List UInt8) (hx : x ∉ onesL) : symR (x :: r) = (Tok.zero, 0, 40) := by
  have hp2 : ∀ a b : UInt8, Lib.hasPrefix (x :: r) [a, b] = ((a == x) && Lib.hasPrefix r [b]) := fun a b => rfl
  have hp1 : ∀ a : UInt8, Lib.hasPrefix (x :: r) [a] = (a == x) := fun a => by simp [Lib.hasPrefix, List.isPrefixOf]
  have hne : ∀ a ∈ onesL, (a == x) = false := fun a ha => by rw [beq_eq_false_iff_ne]; intro e; exact hx (e ▸ ha)
  unfold symR syms
  simp only [List.find?_cons, hp1, hp2, hne 40 (by decide), hne 41 (by decide), hne 44 (by decide), hne 46 (by decide), hne 59 (by decide), hne 42 (by decide), hne 43 (by decide), hne 45 (by decide), hne 47 (by decide), hne 61 (by decide), hne 60 (by decide), hne 62 (by decide), Bool.false_and, List.find?_nil]

end Go.Proofs.YtlmjijiepnefdaaGreatDoor
