/-
  The contract of the reference's symbol.
-/
import Derived.Test.YtlmjijiepnefdaaGreatDoorTkA
namespace Go.Proofs.YtlmjijiepnefdaaGreatDoor
open Go.RowKit

def onesC : Array Value := #[.int .u8 40, .int .u8 41, .int .u8 44, .int .u8 46, .int .u8 59, .int .u8 42, .int .u8 43, .int .u8 45, .int .u8 47, .int .u8 61, .int .u8 60, .int .u8 62]
/-- The world behind the making of the row of symbols. -/
def onesW (w : World) : World := (w.alloc (.cells onesC 5)).freeze ⟨w.heap.size, 12, none⟩ 1
theorem onesW_new (w : World) : (onesW w).heap[w.heap.size]? = some (.cells onesC 5 (12, 13)) := by
  simp [onesW, World.freeze, World.alloc, -World.alloc_eq]
  rw [Array.getElem_modify_self]
  simp
theorem onesW_old (w : World) (j : Nat) (hj : j < w.heap.size) : (onesW w).heap[j]? = w.heap[j]? := by
  have h1 : w.heap.size ≠ j := by omega
  simp [onesW, World.freeze, World.alloc, -World.alloc_eq, Array.getElem?_modify, Array.getElem?_push, h1, Ne.symm h1]
theorem onesW_size (w : World) : (onesW w).heap.size = w.heap.size + 1 := by
  simp [onesW, World.freeze, World.alloc, -World.alloc_eq]
theorem onesW_below (w : World) : Below w.heap.size w (onesW w) := ⟨rfl, rfl, rfl, by rw [onesW_size]; omega, fun k hk => onesW_old w k hk⟩
theorem ones_cell (w : World) : ∀ k, k < 12 → (onesW w).cell? ⟨w.heap.size, k, none⟩ = some (.int .u8 ((onesL.getD k 0).toNat : Int)) := by
  intro k hk
  rw [cell_of_row (onesW w) w.heap.size k onesC 5 _ (onesW_new w)]
  match k, hk with
  | 0, _ => rfl
  | 1, _ => rfl
  | 2, _ => rfl
  | 3, _ => rfl
  | 4, _ => rfl
  | 5, _ => rfl
  | 6, _ => rfl
  | 7, _ => rfl
  | 8, _ => rfl
  | 9, _ => rfl
  | 10, _ => rfl
  | 11, _ => rfl
  | k + 12, h => omega
theorem conv_ones (w : World) : (convert 52 52 (.slice (some ⟨w.heap.size, 0, none⟩) 12 12)).run Tryz.prog (w.alloc (.cells onesC 5)) = .ok (.slice (some ⟨w.heap.size, 0, none⟩) 12 12) (onesW w) := by
  have hsh : (w.alloc (.cells onesC 5)).shape? w.heap.size = some (5, 12) := by
    simp [World.shape?, World.alloc, -World.alloc_eq, onesC]
  simp [convert, run_underlying Tryz.underlying52, markStringish, hsh, onesW, Result.andThen]

set_option maxHeartbeats 4000000 in
set_option maxRecDepth 100000 in
theorem refSymbol_last (s : ByteArray) (at0 : Nat) (w : World) (hs : s.size ≤ 4000) (ha : at0 < s.size) (h1 : ¬ at0 + 1 < s.size) : Calls Tryz.prog 45 #[.string s, .int .i64 at0] w (GotPost (symR (s.data.toList.drop at0)) at0 w) := by
  have b0 := (Below.refl w.heap.size w).alloc (Nat.le_refl _) (.cells (wrongC 0 0) 48)
  have bX0 : Blk (w.alloc (.cells (wrongC 0 0) 48)) w.heap.size (wrongC 0 0) 48 := Blk.new _ _ _
  have hcs := conv_ones (w.alloc (.cells (wrongC 0 0) 48))
  have hcell := ones_cell (w.alloc (.cells (wrongC 0 0) 48))
  have hbo := onesW_below (w.alloc (.cells (wrongC 0 0) 48))
  rw [World.size_alloc] at hcs hcell
  unfold wrongC onesC at hcs
  unfold wrongC at b0 bX0 hcell hbo
  have HB2 := Lib.hid (b0.trans (hbo.mono b0.size))
  have HX2 := Lib.hid (bX0.below hbo)
  clear b0 bX0 hbo
  generalize onesW (w.alloc (.cells #[.int .i64 0, .string ⟨#[]⟩, .int .i64 0, .int .i64 0, .string ⟨#[]⟩, .int .i64 0, .int .i64 0, .int .i64 0, .int .i64 0, .bool false] 48)) = w2 at *
  have h1i : ¬ (at0 : Int) + 1 < (s.size : Int) := by omega
  have HD : Hid (s.data.toList.drop at0 = s[at0] :: []) := by
    unfold Hid; rw [drop_cons s at0 ha, List.drop_eq_nil_of_le (by rw [size_list]; omega)]
  go_enter Tryz.func45, Tryz.ntmps45
  go_wp2_with fail
  go_loopw [37] (fun i wr => ∃ k : Nat, i = .int .i64 k ∧ k ≤ 12 ∧ wr = w2 ∧ Hid (∀ j, j < k → onesL.getD j 0 ≠ s[at0])) (fun i _ => 12 - (intOf i).toNat)
  case atStart => exact ⟨0, rfl, by omega, rfl, by unfold Hid; intro j hj; exact absurd hj (Nat.not_lt_zero _)⟩
  case round =>
    obtain ⟨k, rfl, hk, rfl, HJ⟩ := hrel
    by_cases hlt : k < 12
    · have ck := hcell k hlt
      obtain ⟨y, hy⟩ : ∃ y : UInt8, onesL.getD k 0 = y := ⟨_, rfl⟩
      rw [hy] at ck
      obtain ⟨d, hd⟩ : ∃ d : Nat, y.toNat = d := ⟨_, rfl⟩
      obtain ⟨c, hc⟩ : ∃ c : Nat, s[at0].toNat = c := ⟨_, rfl⟩
      have hc1 : c < 256 := hc ▸ UInt8.toNat_lt _
      have hd1 : d < 256 := hd ▸ UInt8.toNat_lt _
      rw [hd] at ck
      have HY := Lib.hid (And.intro hy hd)
      have HC := Lib.hid hc
      clear hcell hy hd hcs
      by_cases he : d = c
      · have hyx : onesL.getD k 0 = s[at0] := UInt8.toNat_inj.1 (by rw [HY.out.1, HY.out.2, HC.out]; exact he)
        have hm : s[at0] ∈ onesL := by
          rw [← hyx, List.getD_eq_getElem?_getD, List.getElem?_eq_getElem (show k < onesL.length from hlt)]
          exact List.getElem_mem _
        have HQ := Lib.hid (got_ok (at0 := at0) (show symR (s.data.toList.drop at0) = (⟨4, [s[at0]], 0, 0, []⟩, 1, 0) by rw [HD.out]; exact sym_one _ _ (fun y r' e => by simp at e) hm))
        have HE : Hid ((s.extract at0 (at0 + 1)).data.toList = [s[at0]]) := by unfold Hid; rw [take_ext, drop_cons s at0 ha]; rfl
        have hbv : ((d : Int) == (c : Int)) = true := by simp; omega
        have bY := HX2.out
        have y0 := bY.cell 0
        have y1 := bY.cell 1
        have y2 := bY.cell 2
        have y3 := bY.cell 3
        have y4 := bY.cell 4
        have y5 := bY.cell 5
        have y6 := bY.cell 6
        have y7 := bY.cell 7
        have y8 := bY.cell 8
        have y9 := bY.cell 9
        simp only [List.getElem?_toArray, List.getElem?_cons_zero, List.getElem?_cons_succ] at y0 y1 y2 y3 y4 y5 y6 y7 y8 y9
        have f0 := bY.frozen 0
        have f1 := bY.frozen 1
        have f2 := bY.frozen 2
        have f3 := bY.frozen 3
        have f4 := bY.frozen 4
        have f5 := bY.frozen 5
        have f6 := bY.frozen 6
        have f7 := bY.frozen 7
        have f8 := bY.frozen 8
        have f9 := bY.frozen 9
        clear bY he hyx hm
        go_wp2_with fail
        unfold GotPost
        rw [HQ.out]
        refine bodyPost_ret ?_ rfl ⟨rfl, ?_⟩
        · rw [str_val (s.extract at0 (at0 + 1)) _ HE.out]
          simp [results, Tryz.results45, go_sem, gotC, y0, y1, y2, y3, y4, y5, y6, y7, y8, y9]
        · exact (((((((((HB2.out.setCell (Nat.le_refl _) _).setCell (Nat.le_refl _) _).setCell (Nat.le_refl _) _).setCell (Nat.le_refl _) _).setCell (Nat.le_refl _) _).setCell (Nat.le_refl _) _).setCell (Nat.le_refl _) _).setCell (Nat.le_refl _) _).setCell (Nat.le_refl _) _).setCell (Nat.le_refl _) _
      · have hbv : ((d : Int) == (c : Int)) = false := by simp; omega
        have HJ2 : Hid (∀ j, j < k + 1 → onesL.getD j 0 ≠ s[at0]) := by
          unfold Hid; intro j hj e
          by_cases hjk : j = k
          · subst hjk; exact he (by rw [← HY.out.2, ← HC.out, ← HY.out.1, e])
          · exact HJ.out j (by omega) e
        clear he
        go_wp2_with fail
        go_roundw
        case rel => exact ⟨k + 1, by go_num, by omega, by trivial, HJ2⟩
        case measure => simp [intOf]; omega
    · obtain rfl : k = 12 := by omega
      have hnm : s[at0] ∉ onesL := by
        intro hm
        obtain ⟨j, hj⟩ := List.mem_iff_getElem?.1 hm
        have hj12 : j < onesL.length := (List.getElem?_eq_some_iff.1 hj).1
        exact HJ.out j hj12 (by rw [List.getD_eq_getElem?_getD, hj]; rfl)
      have HQ := Lib.hid (got_bad (at0 := at0) (show symR (s.data.toList.drop at0) = (Tok.zero, 0, 40) by rw [HD.out]; exact sym_none _ _ hnm) (by decide))
      clear hcell hcs hnm
      go_wp2_with fail
      refine (wrong_any _ _ _).mono ?_
      rintro e w3 ⟨rfl, b3⟩
      have hb3 := HB2.out.trans (b3.mono HB2.out.size)
      have bY := HX2.out.below b3
      have y0 := bY.cell 0
      have y1 := bY.cell 1
      have y2 := bY.cell 2
      have y3 := bY.cell 3
      have y4 := bY.cell 4
      have y5 := bY.cell 5
      have y6 := bY.cell 6
      have y7 := bY.cell 7
      have y8 := bY.cell 8
      have y9 := bY.cell 9
      simp only [List.getElem?_toArray, List.getElem?_cons_zero, List.getElem?_cons_succ] at y0 y1 y2 y3 y4 y5 y6 y7 y8 y9
      have f0 := bY.frozen 0
      have f1 := bY.frozen 1
      have f2 := bY.frozen 2
      have f3 := bY.frozen 3
      have f4 := bY.frozen 4
      have f5 := bY.frozen 5
      have f6 := bY.frozen 6
      have f7 := bY.frozen 7
      have f8 := bY.frozen 8
      have f9 := bY.frozen 9
      clear bY b3
      unfold wrongC
      go_wp2_with fail
      unfold GotPost
      rw [HQ.out]
      refine bodyPost_ret ?_ rfl ⟨rfl, ?_⟩
      · simp [results, Tryz.results45, go_sem, wrongC, y0, y1, y2, y3, y4, y5, y6, y7, y8, y9]
      · exact (((((((((hb3.setCell (Nat.le_refl _) _).setCell (Nat.le_refl _) _).setCell (Nat.le_refl _) _).setCell (Nat.le_refl _) _).setCell (Nat.le_refl _) _).setCell (Nat.le_refl _) _).setCell (Nat.le_refl _) _).setCell (Nat.le_refl _) _).setCell (Nat.le_refl _) _).setCell (Nat.le_refl _) _

set_option maxHeartbeats 4000000 in
set_option maxRecDepth 100000 in
theorem refSymbol_in (s : ByteArray) (at0 : Nat) (w : World) (hs : s.size ≤ 4000) (ha : at0 < s.size) (h1 : at0 + 1 < s.size) (h2 : ¬ ((s[at0] = 60 ∧ s[at0 + 1] = 61) ∨ (s[at0] = 62 ∧ s[at0 + 1] = 61) ∨ (s[at0] = 60 ∧ s[at0 + 1] = 62))) : Calls Tryz.prog 45 #[.string s, .int .i64 at0] w (GotPost (symR (s.data.toList.drop at0)) at0 w) := by
  have b0 := (Below.refl w.heap.size w).alloc (Nat.le_refl _) (.cells (wrongC 0 0) 48)
  have bX0 : Blk (w.alloc (.cells (wrongC 0 0) 48)) w.heap.size (wrongC 0 0) 48 := Blk.new _ _ _
  have hcs := conv_ones (w.alloc (.cells (wrongC 0 0) 48))
  have hcell := ones_cell (w.alloc (.cells (wrongC 0 0) 48))
  have hbo := onesW_below (w.alloc (.cells (wrongC 0 0) 48))
  rw [World.size_alloc] at hcs hcell
  unfold wrongC onesC at hcs
  unfold wrongC at b0 bX0 hcell hbo
  have HB2 := Lib.hid (b0.trans (hbo.mono b0.size))
  have HX2 := Lib.hid (bX0.below hbo)
  clear b0 bX0 hbo
  generalize onesW (w.alloc (.cells #[.int .i64 0, .string ⟨#[]⟩, .int .i64 0, .int .i64 0, .string ⟨#[]⟩, .int .i64 0, .int .i64 0, .int .i64 0, .int .i64 0, .bool false] 48)) = w2 at *
  have h1i : (at0 : Int) + 1 < (s.size : Int) := by omega
  have HD : Hid (s.data.toList.drop at0 = s[at0] :: s[at0 + 1] :: s.data.toList.drop (at0 + 1 + 1)) := by
    unfold Hid; rw [drop_cons s at0 ha, drop_cons s (at0 + 1) h1]
  have hX : (s.extract at0 (at0 + 2)).toList = [s[at0], s[at0 + 1]] := by rw [ByteArray.toList_eq, take_ext, HD.out]; rfl
  have t1 : ((s.extract at0 (at0 + 2)).toList == [60, 61]) = false := by rw [hX, beq_eq_false_iff_ne]; intro e; exact h2 (.inl (by simpa using e))
  have t2 : ((s.extract at0 (at0 + 2)).toList == [62, 61]) = false := by rw [hX, beq_eq_false_iff_ne]; intro e; exact h2 (.inr (.inl (by simpa using e)))
  have t3 : ((s.extract at0 (at0 + 2)).toList == [60, 62]) = false := by rw [hX, beq_eq_false_iff_ne]; intro e; exact h2 (.inr (.inr (by simpa using e)))
  have HN := Lib.hid h2
  clear hX h2
  go_enter Tryz.func45, Tryz.ntmps45
  go_wp2_with fail
  go_loopw [37] (fun i wr => ∃ k : Nat, i = .int .i64 k ∧ k ≤ 12 ∧ wr = w2 ∧ Hid (∀ j, j < k → onesL.getD j 0 ≠ s[at0])) (fun i _ => 12 - (intOf i).toNat)
  case atStart => exact ⟨0, rfl, by omega, rfl, by unfold Hid; intro j hj; exact absurd hj (Nat.not_lt_zero _)⟩
  case round =>
    obtain ⟨k, rfl, hk, rfl, HJ⟩ := hrel
    by_cases hlt : k < 12
    · have ck := hcell k hlt
      obtain ⟨y, hy⟩ : ∃ y : UInt8, onesL.getD k 0 = y := ⟨_, rfl⟩
      rw [hy] at ck
      obtain ⟨d, hd⟩ : ∃ d : Nat, y.toNat = d := ⟨_, rfl⟩
      obtain ⟨c, hc⟩ : ∃ c : Nat, s[at0].toNat = c := ⟨_, rfl⟩
      have hc1 : c < 256 := hc ▸ UInt8.toNat_lt _
      have hd1 : d < 256 := hd ▸ UInt8.toNat_lt _
      rw [hd] at ck
      have HY := Lib.hid (And.intro hy hd)
      have HC := Lib.hid hc
      clear hcell hy hd hcs
      by_cases he : d = c
      · have hyx : onesL.getD k 0 = s[at0] := UInt8.toNat_inj.1 (by rw [HY.out.1, HY.out.2, HC.out]; exact he)
        have hm : s[at0] ∈ onesL := by
          rw [← hyx, List.getD_eq_getElem?_getD, List.getElem?_eq_getElem (show k < onesL.length from hlt)]
          exact List.getElem_mem _
        have HQ := Lib.hid (got_ok (at0 := at0) (show symR (s.data.toList.drop at0) = (⟨4, [s[at0]], 0, 0, []⟩, 1, 0) by rw [HD.out]; exact sym_one _ _ (fun y r' e => by obtain ⟨rfl, _⟩ := List.cons.inj e; exact HN.out) hm))
        have HE : Hid ((s.extract at0 (at0 + 1)).data.toList = [s[at0]]) := by unfold Hid; rw [take_ext, drop_cons s at0 ha]; rfl
        have hbv : ((d : Int) == (c : Int)) = true := by simp; omega
        have bY := HX2.out
        have y0 := bY.cell 0
        have y1 := bY.cell 1
        have y2 := bY.cell 2
        have y3 := bY.cell 3
        have y4 := bY.cell 4
        have y5 := bY.cell 5
        have y6 := bY.cell 6
        have y7 := bY.cell 7
        have y8 := bY.cell 8
        have y9 := bY.cell 9
        simp only [List.getElem?_toArray, List.getElem?_cons_zero, List.getElem?_cons_succ] at y0 y1 y2 y3 y4 y5 y6 y7 y8 y9
        have f0 := bY.frozen 0
        have f1 := bY.frozen 1
        have f2 := bY.frozen 2
        have f3 := bY.frozen 3
        have f4 := bY.frozen 4
        have f5 := bY.frozen 5
        have f6 := bY.frozen 6
        have f7 := bY.frozen 7
        have f8 := bY.frozen 8
        have f9 := bY.frozen 9
        clear bY he hyx hm
        go_wp2_with fail
        unfold GotPost
        rw [HQ.out]
        refine bodyPost_ret ?_ rfl ⟨rfl, ?_⟩
        · rw [str_val (s.extract at0 (at0 + 1)) _ HE.out]
          simp [results, Tryz.results45, go_sem, gotC, y0, y1, y2, y3, y4, y5, y6, y7, y8, y9]
        · exact (((((((((HB2.out.setCell (Nat.le_refl _) _).setCell (Nat.le_refl _) _).setCell (Nat.le_refl _) _).setCell (Nat.le_refl _) _).setCell (Nat.le_refl _) _).setCell (Nat.le_refl _) _).setCell (Nat.le_refl _) _).setCell (Nat.le_refl _) _).setCell (Nat.le_refl _) _).setCell (Nat.le_refl _) _
      · have hbv : ((d : Int) == (c : Int)) = false := by simp; omega
        have HJ2 : Hid (∀ j, j < k + 1 → onesL.getD j 0 ≠ s[at0]) := by
          unfold Hid; intro j hj e
          by_cases hjk : j = k
          · subst hjk; exact he (by rw [← HY.out.2, ← HC.out, ← HY.out.1, e])
          · exact HJ.out j (by omega) e
        clear he
        go_wp2_with fail
        go_roundw
        case rel => exact ⟨k + 1, by go_num, by omega, by trivial, HJ2⟩
        case measure => simp [intOf]; omega
    · obtain rfl : k = 12 := by omega
      have hnm : s[at0] ∉ onesL := by
        intro hm
        obtain ⟨j, hj⟩ := List.mem_iff_getElem?.1 hm
        have hj12 : j < onesL.length := (List.getElem?_eq_some_iff.1 hj).1
        exact HJ.out j hj12 (by rw [List.getD_eq_getElem?_getD, hj]; rfl)
      have HQ := Lib.hid (got_bad (at0 := at0) (show symR (s.data.toList.drop at0) = (Tok.zero, 0, 40) by rw [HD.out]; exact sym_none _ _ hnm) (by decide))
      clear hcell hcs hnm
      go_wp2_with fail
      refine (wrong_any _ _ _).mono ?_
      rintro e w3 ⟨rfl, b3⟩
      have hb3 := HB2.out.trans (b3.mono HB2.out.size)
      have bY := HX2.out.below b3
      have y0 := bY.cell 0
      have y1 := bY.cell 1
      have y2 := bY.cell 2
      have y3 := bY.cell 3
      have y4 := bY.cell 4
      have y5 := bY.cell 5
      have y6 := bY.cell 6
      have y7 := bY.cell 7
      have y8 := bY.cell 8
      have y9 := bY.cell 9
      simp only [List.getElem?_toArray, List.getElem?_cons_zero, List.getElem?_cons_succ] at y0 y1 y2 y3 y4 y5 y6 y7 y8 y9
      have f0 := bY.frozen 0
      have f1 := bY.frozen 1
      have f2 := bY.frozen 2
      have f3 := bY.frozen 3
      have f4 := bY.frozen 4
      have f5 := bY.frozen 5
      have f6 := bY.frozen 6
      have f7 := bY.frozen 7
      have f8 := bY.frozen 8
      have f9 := bY.frozen 9
      clear bY b3
      unfold wrongC
      go_wp2_with fail
      unfold GotPost
      rw [HQ.out]
      refine bodyPost_ret ?_ rfl ⟨rfl, ?_⟩
      · simp [results, Tryz.results45, go_sem, wrongC, y0, y1, y2, y3, y4, y5, y6, y7, y8, y9]
      · exact (((((((((hb3.setCell (Nat.le_refl _) _).setCell (Nat.le_refl _) _).setCell (Nat.le_refl _) _).setCell (Nat.le_refl _) _).setCell (Nat.le_refl _) _).setCell (Nat.le_refl _) _).setCell (Nat.le_refl _) _).setCell (Nat.le_refl _) _).setCell (Nat.le_refl _) _).setCell (Nat.le_refl _) _

set_option maxHeartbeats 4000000 in
set_option maxRecDepth 100000 in
theorem refSymbol_two (s : ByteArray) (at0 : Nat) (w : World) (hs : s.size ≤ 4000) (ha : at0 < s.size) (h1 : at0 + 1 < s.size) (h2 : (s[at0] = 60 ∧ s[at0 + 1] = 61) ∨ (s[at0] = 62 ∧ s[at0 + 1] = 61) ∨ (s[at0] = 60 ∧ s[at0 + 1] = 62)) : Calls Tryz.prog 45 #[.string s, .int .i64 at0] w (GotPost (symR (s.data.toList.drop at0)) at0 w) := by
  have b0 := (Below.refl w.heap.size w).alloc (Nat.le_refl _) (.cells (wrongC 0 0) 48)
  have bX0 : Blk (w.alloc (.cells (wrongC 0 0) 48)) w.heap.size (wrongC 0 0) 48 := Blk.new _ _ _
  unfold wrongC at b0 bX0
  have HB2 := Lib.hid b0
  have h1i : (at0 : Int) + 1 < (s.size : Int) := by omega
  have HD : Hid (s.data.toList.drop at0 = s[at0] :: s[at0 + 1] :: s.data.toList.drop (at0 + 1 + 1)) := by
    unfold Hid; rw [drop_cons s at0 ha, drop_cons s (at0 + 1) h1]
  have hX : (s.extract at0 (at0 + 2)).toList = [s[at0], s[at0 + 1]] := by rw [ByteArray.toList_eq, take_ext, HD.out]; rfl
  have HQ := Lib.hid (got_ok (at0 := at0) (show symR (s.data.toList.drop at0) = (⟨4, [s[at0], s[at0 + 1]], 0, 0, []⟩, 2, 0) by rw [HD.out]; exact sym_two _ _ _ h2))
  have HE : Hid ((s.extract at0 (at0 + 2)).data.toList = [s[at0], s[at0 + 1]]) := by rw [ByteArray.toList_eq] at hX; exact hX
  rcases h2 with ⟨e1, e2⟩ | ⟨e1, e2⟩ | ⟨e1, e2⟩
  · rw [e1, e2] at hX
    have t0 : ((s.extract at0 (at0 + 2)).toList == [60, 61]) = true := by rw [hX]; decide
    have t1 : ((s.extract at0 (at0 + 2)).toList == [62, 61]) = false := by rw [hX]; decide
    have t2 : ((s.extract at0 (at0 + 2)).toList == [60, 62]) = false := by rw [hX]; decide
    clear e1 e2 hX b0 bX0
    go_enter Tryz.func45, Tryz.ntmps45
    go_wp2_with fail
    unfold GotPost
    rw [HQ.out]
    refine bodyPost_ret ?_ rfl ⟨rfl, ?_⟩
    · rw [str_val (s.extract at0 (at0 + 2)) _ HE.out]
      simp [results, Tryz.results45, go_sem, gotC]
    · exact (Below.refl _ _).alloc (Nat.le_refl _) _
  · rw [e1, e2] at hX
    have t0 : ((s.extract at0 (at0 + 2)).toList == [60, 61]) = false := by rw [hX]; decide
    have t1 : ((s.extract at0 (at0 + 2)).toList == [62, 61]) = true := by rw [hX]; decide
    have t2 : ((s.extract at0 (at0 + 2)).toList == [60, 62]) = false := by rw [hX]; decide
    clear e1 e2 hX b0 bX0
    go_enter Tryz.func45, Tryz.ntmps45
    go_wp2_with fail
    unfold GotPost
    rw [HQ.out]
    refine bodyPost_ret ?_ rfl ⟨rfl, ?_⟩
    · rw [str_val (s.extract at0 (at0 + 2)) _ HE.out]
      simp [results, Tryz.results45, go_sem, gotC]
    · exact (Below.refl _ _).alloc (Nat.le_refl _) _
  · rw [e1, e2] at hX
    have t0 : ((s.extract at0 (at0 + 2)).toList == [60, 61]) = false := by rw [hX]; decide
    have t1 : ((s.extract at0 (at0 + 2)).toList == [62, 61]) = false := by rw [hX]; decide
    have t2 : ((s.extract at0 (at0 + 2)).toList == [60, 62]) = true := by rw [hX]; decide
    clear e1 e2 hX b0 bX0
    go_enter Tryz.func45, Tryz.ntmps45
    go_wp2_with fail
    unfold GotPost
    rw [HQ.out]
    refine bodyPost_ret ?_ rfl ⟨rfl, ?_⟩
    · rw [str_val (s.extract at0 (at0 + 2)) _ HE.out]
      simp [results, Tryz.results45, go_sem, gotC]
    · exact (Below.refl _ _).alloc (Nat.le_refl _) _

theorem refSymbol_any (s : ByteArray) (at0 : Nat) (w : World) (hs : s.size ≤ 4000) (ha : at0 < s.size) : Calls Tryz.prog 45 #[.string s, .int .i64 at0] w (GotPost (symR (s.data.toList.drop at0)) at0 w) := by
  by_cases h1 : at0 + 1 < s.size
  · by_cases h2 : (s[at0] = 60 ∧ s[at0 + 1] = 61) ∨ (s[at0] = 62 ∧ s[at0 + 1] = 61) ∨ (s[at0] = 60 ∧ s[at0 + 1] = 62)
    · exact refSymbol_two s at0 w hs ha h1 h2
    · exact refSymbol_in s at0 w hs ha h1 h2
  · exact refSymbol_last s at0 w hs ha h1

end Go.Proofs.YtlmjijiepnefdaaGreatDoor
