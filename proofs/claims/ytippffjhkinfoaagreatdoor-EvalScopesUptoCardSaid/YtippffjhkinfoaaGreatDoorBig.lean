/-
  The reference's whole numbers: contracts.
-/
import Derived.Test.YtippffjhkinfoaaGreatDoorBigB
import Derived.Test.YtippffjhkinfoaaGreatDoorBigP
import Derived.RegionTactic
import Derived.Handy
import Derived.Deep.RegionWith
namespace Go.Proofs.YtippffjhkinfoaaGreatDoor
open Go.RowKit

def encDig (d : Int) : List Value := [.int .u64 d]
theorem hkD (x : Int) : (encDig x).length = 1 := rfl
abbrev DigV (w : World) (v : Value) (L : List Int) : Prop := ValG encDig 1 w v L
abbrev OwnDig (w : World) (base : Nat) (v : Value) (L : List Int) : Prop := OwnG encDig 1 83 w base v L
theorem info83 : (Tryz.prog.info? 83).map (fun i => (i.zero, i.size, i.bytes)) = some (some (.int .u64 0), 1, 8) := by kernel_rfl

theorem DigV.open {w : World} {v : Value} {L : List Int} (h : DigV w v L) : ∃ A c, v = .slice A L.length c ∧ L.length ≤ c ∧ Hid (L = [] ∨ ∃ b off, A = some ⟨b, off, none⟩ ∧ b < w.heap.size ∧ ∀ k d, L[k]? = some d → w.cell? ⟨b, off + k, none⟩ = some (.int .u64 d)) := by
  rcases h with ⟨rfl, rfl⟩ | ⟨b, off, cap, rfl, _, hb, hat, hc⟩
  · exact ⟨none, 0, rfl, Nat.le_refl _, .inl rfl⟩
  · refine ⟨_, _, rfl, hc, .inr ⟨b, off, rfl, hb, fun k d hk => ?_⟩⟩
    have := hat k d hk 0 _ rfl
    simpa using this

theorem DigV.cut {w w' : World} {A : Option Addr} {c : Nat} {L : List Int} (h : DigV w (.slice A L.length c) L) (n : Nat) (hn : n ≤ L.length) (hb : Below w.heap.size w w') : DigV w' (.slice A n c) (L.take n) := by
  have hl : (L.take n).length = n := by rw [List.length_take]; omega
  rcases h.below hb with ⟨e, rfl⟩ | ⟨b, off, cap, e, hm, hlt, hat, hc⟩
  · injection e with e1 e2 e3
    subst e1 e3
    obtain rfl : n = 0 := by simpa using hn
    exact .inl ⟨rfl, rfl⟩
  · injection e with e1 e2 e3
    subst e1 e3
    refine .inr ⟨b, off, c, by rw [hl], by rw [hl]; omega, hlt, ?_, by rw [hl]; omega⟩
    intro i x hi r u hr
    refine hat i x ?_ r u hr
    rw [List.getElem?_take] at hi
    split at hi
    · exact hi
    · cases hi

set_option maxRecDepth 100000 in
set_option maxHeartbeats 4000000 in
theorem trimmed_any (A : Option Addr) (c : Nat) (L : List Int) (w : World) (hv : DigV w (.slice A L.length c) L) (hd : DigOk L) (hl : L.length ≤ 5000) :
    Calls Tryz.prog 94 #[.agg #[.bool false, .slice A L.length c]] w fun e w' => ∃ n, n ≤ L.length ∧ e = .returned (.agg #[.bool false, .slice A n c]) ∧ Norm (L.take n) ∧ valD (L.take n) = valD L ∧ Below w.heap.size w w' := by
  obtain ⟨A', c', e', hc, HA⟩ := DigV.open hv
  injection e' with e1 _ e3
  subst e1 e3
  clear hv
  have HN := Lib.hid (fun n (h : n ≤ L.length) hz => trim_norm hd n h hz)
  have HS := Lib.hid (fun n (h : n < L.length) hz => trim_step n h hz)
  clear hd
  go_enter Tryz.func94, Tryz.ntmps94
  go_wp2_with fail
  have hb2 := ((Below.refl w.heap.size w).alloc (Nat.le_refl _) (Obj.cells #[Value.bool false, Value.slice A L.length c] 73)).alloc (by simp) (Obj.cells #[Value.bool false, Value.slice none 0 0] 73)
  go_loop [3] (fun n => ∃ k : Nat, k ≤ L.length ∧ n = .int .i64 k ∧ Hid (valD (L.take k) = valD L)) (fun n => (intOf n).toNat)
  case atStart => exact ⟨L.length, Nat.le_refl _, rfl, by unfold Hid; rw [List.take_length]⟩
  case round =>
    obtain ⟨k, hk, rfl, hval⟩ := hrel
    rcases k with _ | k
    · have hn := Lib.hid (HN.out 0 (by omega) (.inl rfl))
      go_wp2_with fail
      go_region
      rename_i K0 hK0 _
      change K0 _ _
      refine hK0 _ _ ?_
      go_wp2
      go_returns
      exact ⟨0, by omega, rfl, hn.out, hval.out, (((Below.refl w.heap.size w).alloc (Nat.le_refl _) _).alloc (by simp) _).drew⟩
    · obtain ⟨b, off, rfl, hbl, hat⟩ := HA.out.resolve_left (by rintro rfl; simp at hk)
      have hc1 := (hb2.cell (p := ⟨b, off + k, none⟩) hbl).trans (hat k L[k] (List.getElem?_eq_getElem (by omega)))
      have hkk : (0 : Int) < (k : Int) + 1 := by omega
      by_cases h0 : L[k] = 0
      · rw [h0] at hc1
        have HS' := Lib.hid (HS.out k (by omega) h0)
        clear hat h0
        go_wp2_with fail
        exact ⟨⟨k, by omega, rfl, by unfold Hid; rw [← HS'.out]; exact hval.out⟩, by simp [intOf]⟩
      · have hn := Lib.hid (HN.out (k + 1) hk (.inr ⟨by omega, h0⟩))
        have h0' : (L[k] == 0) = false := by simpa using h0
        revert hn hc1 h0'
        generalize L[k] = d
        intro hc1 hn h0'
        clear hat h0
        go_wp2_with fail
        go_region
        rename_i K0 hK0 _
        change K0 _ _
        refine hK0 _ _ ?_
        go_wp2
        go_returns
        exact ⟨k + 1, by omega, rfl, hn.out, hval.out, (((Below.refl w.heap.size w).alloc (Nat.le_refl _) _).alloc (by simp) _).drew⟩

/-- Digits in memory of the call's own. -/
def DigB (w : World) (base : Nat) (v : Value) (L : List Int) : Prop := DigV w v L ∧ ∀ b off n c, v = .slice (some ⟨b, off, none⟩) n c → base ≤ b
theorem grown_put (w : World) (h j : Nat) (u : Value) : w.grownBy (w.setCell ⟨h, j, none⟩ u) (some h) :=
  ⟨rfl, rfl, rfl, by simp, fun b _ hne => Below.heap_setCell w ⟨h, j, none⟩ u b (fun e => hne (by rw [e]))⟩
theorem OwnDig.setOther {w : World} {base : Nat} {v : Value} {L : List Int} (h : OwnDig w base v L) {b : Nat} (hb : b < base) (j : Nat) (u : Value) : OwnDig (w.setCell ⟨b, j, none⟩ u) base v L :=
  OwnG.kept h (grown_put w b j u) (by
    right
    intro e
    have := (OwnG.lt h b e).1
    omega)
theorem OwnDig.dig {w : World} {base b0 : Nat} {v : Value} {L : List Int} (h : OwnDig w base v L) (hb : b0 ≤ base) : DigB w b0 v L := by
  refine ⟨OwnG.val hkD h, ?_⟩
  intro b off n c e
  rcases OwnG.shape h with ⟨e', _⟩ | ⟨g, cap, e', hg, _⟩
  · rw [e'] at e; cases e
  · rw [e'] at e
    injection e with e1
    injection e1 with e1
    injection e1 with e1
    omega
theorem DigB.cut {w : World} {base : Nat} {A : Option Addr} {c : Nat} {L : List Int} (h : DigB w base (.slice A L.length c) L) (n : Nat) (hn : n ≤ L.length) : DigB w base (.slice A n c) (L.take n) := by
  refine ⟨h.1.cut n hn (Below.refl _ _), ?_⟩
  intro b off n' c' e
  injection e with e1 _ _
  exact h.2 b off L.length c (by rw [e1])
theorem DigB.below {w w' : World} {base : Nat} {v : Value} {L : List Int} (h : DigB w base v L) (hb : Below w.heap.size w w') : DigB w' base v L := ⟨h.1.below hb, h.2⟩
theorem DigB.more {w : World} {base b0 : Nat} {v : Value} {L : List Int} (h : DigB w base v L) (hb : b0 ≤ base) : DigB w b0 v L := ⟨h.1, fun b off n c e => Nat.le_trans hb (h.2 b off n c e)⟩
theorem DigB.set {w : World} {base b j : Nat} {u v : Value} {L : List Int} (h : DigB w base v L) (hb : b < base) : DigB (w.setCell ⟨b, j, none⟩ u) base v L := by
  refine ⟨?_, h.2⟩
  rcases h.1 with h1 | ⟨b', off, cap, e, hm, hlt, hat, hc⟩
  · exact .inl h1
  · have := h.2 _ _ _ _ e
    exact .inr ⟨b', off, cap, e, hm, by simpa using hlt, AtG.block hat (Below.heap_setCell w ⟨b, j, none⟩ u b' (by simp; omega)), hc⟩
theorem digV_at (w : World) (b : Nat) (d : Int) (h : b = w.heap.size) : DigV (w.alloc (.cells #[.int .u64 d] 83)) (.slice (some ⟨b, 0, none⟩) 1 1) [d] := by
  subst h
  have hb := Blk.new w #[.int .u64 d] 83
  refine .inr ⟨w.heap.size, 0, 1, rfl, (show 1 ≤ maxLen by decide), hb.lt, ?_, Nat.le_refl _⟩
  intro i x hi r u hr
  match i, hi with
  | 0, hi =>
    simp only [List.getElem?_cons_zero, Option.some.injEq] at hi
    subst hi
    have h2 : r < 1 := by have := (List.getElem?_eq_some_iff.mp hr).1; simpa [encDig] using this
    obtain rfl : r = 0 := by omega
    rw [show 0 + 0 * 1 + 0 = 0 by omega, hb.cell]
    simpa [encDig] using hr
  | i + 1, hi => simp at hi
theorem one_dig (d : Int) : ∀ x ∈ [d], ∀ u ∈ encDig x, u.oneCell' = true := by
  intro x hx u hu
  simp only [List.mem_singleton] at hx
  subst hx
  simp only [encDig, List.mem_singleton] at hu
  subst hu
  rfl
theorem own_shape {w : World} {base : Nat} {v : Value} {L : List Int} (h : OwnDig w base v L) : ∃ A c, v = .slice A L.length c := by
  rcases OwnG.shape h with ⟨rfl, rfl⟩ | ⟨g, cap, rfl, _⟩
  · exact ⟨_, _, rfl⟩
  · exact ⟨_, _, rfl⟩

set_option maxRecDepth 100000 in
set_option maxHeartbeats 4000000 in
theorem of_any (i : Int) (w : World) (h0 : -9223372036854775808 ≤ i) (h1 : i ≤ 9223372036854775807) :
    Calls Tryz.prog 50 #[.int .i64 i] w fun e w' => ∃ v' L, e = .returned (.agg #[.bool (decide (i < 0)), v']) ∧ DigB w' w.heap.size v' L ∧ Norm L ∧ valD L = (if i < 0 then -i else i) ∧ Below w.heap.size w w' := by
  obtain ⟨i0, hi, hz0, hz1, hz2⟩ := info_parts info83
  have HI := Lib.hid hi
  have HZ0 := Lib.hid hz0
  have HZ1 := Lib.hid hz1
  have HZ2 := Lib.hid hz2
  clear hi hz0 hz1 hz2
  by_cases hneg : i < 0
  · have hdd : decide (i < 0) = true := decide_eq_true hneg
    rw [hdd, if_pos hneg]
    have HN0 : Hid (IntKind.u64.wrap (-IntKind.u64.wrap i) = -i) := by
      unfold Hid
      simp only [IntKind.wrap, IntKind.bits, IntKind.signed]
      simp
      omega
    go_enter Tryz.func50, Tryz.ntmps50
    go_wp2_with fail
    rw [HN0.out]
    clear HN0
    have hb2 := ((Below.refl w.heap.size w).alloc (Nat.le_refl _) (Obj.cells #[Value.bool false, Value.slice none 0 0] 73)).alloc (by simp) (Obj.cells #[Value.bool true, Value.slice none 0 0] 73)
    have bR := (Blk.new w #[Value.bool false, Value.slice none 0 0] 73).alloc (Obj.cells #[Value.bool true, Value.slice none 0 0] 73)
    have bO : Blk ((w.alloc (Obj.cells #[Value.bool false, Value.slice none 0 0] 73)).alloc (Obj.cells #[Value.bool true, Value.slice none 0 0] 73)) (w.heap.size + 1) #[Value.bool true, Value.slice none 0 0] 73 := Blk.atB (by simp)
    go_loopw [3] (fun n wr => ∃ (L : List Int) (q : Int), n = .int .u64 q ∧ Hid (OfInv (-i) L q) ∧ Below w.heap.size w wr ∧ Blk wr w.heap.size #[.bool false, .slice none 0 0] 73 ∧ ∃ sl, Blk wr (w.heap.size + 1) #[.bool true, sl] 73 ∧ Hid (OwnDig wr (w.heap.size + 2) sl L)) (fun n _ => (intOf n).toNat)
    case atStart => exact ⟨[], -i, rfl, OfInv.start _ (by omega), hb2, bR, _, bO, OwnG.nil 83 _ _⟩
    case round =>
      obtain ⟨L, q, rfl, hinv, hb, bR2, sl, bO2, HO⟩ := hrel
      have hq00 := hinv
      have hq0 : 0 ≤ q := hinv.out.2.1
      clear bR bO
      have hz := bO2.lt
      have c0 := bO2.cell 0
      have c1 := bO2.cell 1
      have f1 := bO2.frozen 1
      simp only [List.getElem?_toArray, List.getElem?_cons_zero, List.getElem?_cons_succ] at c0 c1
      by_cases hq : 0 < q
      · have hnext := Lib.hid (hinv.out.step hq)
        have hL4 : L.length ≤ 4 := by
          have h1 := hinv.out.2.2.2
          rcases h1 with rfl | h1
          · simp
          · rcases Nat.lt_or_ge 4 L.length with q4 | q4
            · have h2 := pw_mono (m := 4) (n := L.length - 1) (by omega)
              have e : pw 4 = 1000000000000000000000000 := by decide
              omega
            · exact q4
        have hqb : q ≤ 9223372036854775808 := by
          have v1 := (valD_bound hinv.out.1).1
          have v2 := hinv.out.2.2.1
          have hm : 1 * q ≤ pw L.length * q := Int.mul_le_mul_of_nonneg_right (pw_pos _) hq0
          omega
        have hwq : IntKind.u64.wrap (q / 1000000) = q / 1000000 := by
          simp only [IntKind.wrap, IntKind.bits, IntKind.signed]
          simp
          omega
        have hqd : 0 ≤ q % 1000000 ∧ q % 1000000 < 1000000 := by omega
        have hqt : q.tdiv 1000000 = q / 1000000 := Int.tdiv_eq_ediv_of_nonneg hq0
        have hqm : q.tmod 1000000 = q % 1000000 := Int.tmod_eq_emod_of_nonneg hq0
        have hqq : 0 ≤ q / 1000000 ∧ q / 1000000 < q := by omega
        have bO7 := bO2.alloc (.cells #[.int .u64 (q % 1000000)] 83)
        have bR7 := bR2.alloc (.cells #[.int .u64 (q % 1000000)] 83)
        have HO7 := Lib.hid (HO.out.alloc (.cells #[.int .u64 (q % 1000000)] 83))
        have HV7 := Lib.hid (digV_at wr wr.heap.size (q % 1000000) rfl)
        have hz7 : w.heap.size + 2 ≤ (wr.alloc (.cells #[.int .u64 (q % 1000000)] 83)).heap.size := by simp; omega
        have hb7 := hb.alloc hb.size (.cells #[.int .u64 (q % 1000000)] 83)
        go_wp2_with (at_builtin; refine wpList_append_g hkD (by decide) 71 83 i0 _ 8 Tryz.underlying71 HI.out HZ0.out HZ1.out HZ2.out rfl _ rfl (.tmp 17) (.tmp 20) rfl (w.heap.size + 2) _ _ L [q % 1000000] rfl rfl HO7.out HV7.out (one_dig _) (by unfold maxLen; simp only [List.length_singleton]; omega) (by simp only [List.length_singleton]; omega) hz7 ?_; intro v8 w8 ho8 hg8; obtain ⟨A8, c8, rfl⟩ := own_shape ho8; have bO8 : Blk w8 (w.heap.size + 1) _ 73 := (hg8.block (w.heap.size + 1) (by simp; omega) (fun e => absurd (OwnG.lt HO7.out _ e.symm).1 (by omega))).trans bO7; have bR8 : Blk w8 w.heap.size _ 73 := (hg8.block w.heap.size (by simp; omega) (fun e => absurd (OwnG.lt HO7.out _ e.symm).1 (by omega))).trans bR7; have d1 := bO8.cell 1; have g1 := bO8.frozen 1; simp only [List.getElem?_toArray, List.getElem?_cons_zero, List.getElem?_cons_succ] at d1)
        refine ⟨⟨L ++ [q % 1000000], q / 1000000, rfl, hnext, ((hb7.trans ((OwnG.grown HO7.out hz7 hg8).mono (by omega))).setCell (by simp) _), bR8.setOther (by omega) _ _, _, by simpa using bO8.set 1 _, OwnDig.setOther (by simpa using ho8) (by omega) _ _⟩, ?_⟩
        simp only [intOf]
        omega
      · obtain rfl : q = 0 := by omega
        have hd := Lib.hid hinv.out.done
        obtain ⟨A, c, rfl⟩ := own_shape HO.out
        have r0 := bR2.cell 0
        have r1 := bR2.cell 1
        have g0 := bR2.frozen 0
        have g1 := bR2.frozen 1
        simp only [List.getElem?_toArray, List.getElem?_cons_zero, List.getElem?_cons_succ] at r0 r1
        clear hinv
        go_wp2_with fail
        have bF := (bR2.set 0 (.bool true)).set 1 (.slice A L.length c)
        have d0 := bF.cell 0
        have d1 := bF.cell 1
        simp only [List.setIfInBounds_toArray, List.set_cons_zero, List.set_cons_succ, List.getElem?_toArray, List.getElem?_cons_zero, List.getElem?_cons_succ] at d0 d1
        refine bodyPost_ret (v := .agg #[.bool true, .slice A L.length c]) (by simp [results, Tryz.results50, go_sem, d0, d1]) rfl ⟨_, rfl, L, ?_, hd.out.1, hd.out.2, ((hb.setCell (by simp) _).setCell (by simp) _)⟩
        exact OwnDig.dig (OwnDig.setOther (OwnDig.setOther HO.out (by omega) _ _) (by omega) _ _) (by omega)
  · have hdd : decide (i < 0) = false := decide_eq_false hneg
    rw [hdd, if_neg hneg]
    have HN0 : Hid (IntKind.u64.wrap i = i) := by
      unfold Hid
      simp only [IntKind.wrap, IntKind.bits, IntKind.signed]
      simp
      omega
    go_enter Tryz.func50, Tryz.ntmps50
    go_wp2_with fail
    skip
    clear HN0
    have hb2 := ((Below.refl w.heap.size w).alloc (Nat.le_refl _) (Obj.cells #[Value.bool false, Value.slice none 0 0] 73)).alloc (by simp) (Obj.cells #[Value.bool false, Value.slice none 0 0] 73)
    have bR := (Blk.new w #[Value.bool false, Value.slice none 0 0] 73).alloc (Obj.cells #[Value.bool false, Value.slice none 0 0] 73)
    have bO : Blk ((w.alloc (Obj.cells #[Value.bool false, Value.slice none 0 0] 73)).alloc (Obj.cells #[Value.bool false, Value.slice none 0 0] 73)) (w.heap.size + 1) #[Value.bool false, Value.slice none 0 0] 73 := Blk.atB (by simp)
    go_loopw [3] (fun n wr => ∃ (L : List Int) (q : Int), n = .int .u64 q ∧ Hid (OfInv (i) L q) ∧ Below w.heap.size w wr ∧ Blk wr w.heap.size #[.bool false, .slice none 0 0] 73 ∧ ∃ sl, Blk wr (w.heap.size + 1) #[.bool false, sl] 73 ∧ Hid (OwnDig wr (w.heap.size + 2) sl L)) (fun n _ => (intOf n).toNat)
    case atStart => exact ⟨[], i, rfl, OfInv.start _ (by omega), hb2, bR, _, bO, OwnG.nil 83 _ _⟩
    case round =>
      obtain ⟨L, q, rfl, hinv, hb, bR2, sl, bO2, HO⟩ := hrel
      have hq00 := hinv
      have hq0 : 0 ≤ q := hinv.out.2.1
      clear bR bO
      have hz := bO2.lt
      have c0 := bO2.cell 0
      have c1 := bO2.cell 1
      have f1 := bO2.frozen 1
      simp only [List.getElem?_toArray, List.getElem?_cons_zero, List.getElem?_cons_succ] at c0 c1
      by_cases hq : 0 < q
      · have hnext := Lib.hid (hinv.out.step hq)
        have hL4 : L.length ≤ 4 := by
          have h1 := hinv.out.2.2.2
          rcases h1 with rfl | h1
          · simp
          · rcases Nat.lt_or_ge 4 L.length with q4 | q4
            · have h2 := pw_mono (m := 4) (n := L.length - 1) (by omega)
              have e : pw 4 = 1000000000000000000000000 := by decide
              omega
            · exact q4
        have hqb : q ≤ 9223372036854775808 := by
          have v1 := (valD_bound hinv.out.1).1
          have v2 := hinv.out.2.2.1
          have hm : 1 * q ≤ pw L.length * q := Int.mul_le_mul_of_nonneg_right (pw_pos _) hq0
          omega
        have hwq : IntKind.u64.wrap (q / 1000000) = q / 1000000 := by
          simp only [IntKind.wrap, IntKind.bits, IntKind.signed]
          simp
          omega
        have hqd : 0 ≤ q % 1000000 ∧ q % 1000000 < 1000000 := by omega
        have hqt : q.tdiv 1000000 = q / 1000000 := Int.tdiv_eq_ediv_of_nonneg hq0
        have hqm : q.tmod 1000000 = q % 1000000 := Int.tmod_eq_emod_of_nonneg hq0
        have hqq : 0 ≤ q / 1000000 ∧ q / 1000000 < q := by omega
        have bO7 := bO2.alloc (.cells #[.int .u64 (q % 1000000)] 83)
        have bR7 := bR2.alloc (.cells #[.int .u64 (q % 1000000)] 83)
        have HO7 := Lib.hid (HO.out.alloc (.cells #[.int .u64 (q % 1000000)] 83))
        have HV7 := Lib.hid (digV_at wr wr.heap.size (q % 1000000) rfl)
        have hz7 : w.heap.size + 2 ≤ (wr.alloc (.cells #[.int .u64 (q % 1000000)] 83)).heap.size := by simp; omega
        have hb7 := hb.alloc hb.size (.cells #[.int .u64 (q % 1000000)] 83)
        go_wp2_with (at_builtin; refine wpList_append_g hkD (by decide) 71 83 i0 _ 8 Tryz.underlying71 HI.out HZ0.out HZ1.out HZ2.out rfl _ rfl (.tmp 17) (.tmp 20) rfl (w.heap.size + 2) _ _ L [q % 1000000] rfl rfl HO7.out HV7.out (one_dig _) (by unfold maxLen; simp only [List.length_singleton]; omega) (by simp only [List.length_singleton]; omega) hz7 ?_; intro v8 w8 ho8 hg8; obtain ⟨A8, c8, rfl⟩ := own_shape ho8; have bO8 : Blk w8 (w.heap.size + 1) _ 73 := (hg8.block (w.heap.size + 1) (by simp; omega) (fun e => absurd (OwnG.lt HO7.out _ e.symm).1 (by omega))).trans bO7; have bR8 : Blk w8 w.heap.size _ 73 := (hg8.block w.heap.size (by simp; omega) (fun e => absurd (OwnG.lt HO7.out _ e.symm).1 (by omega))).trans bR7; have d1 := bO8.cell 1; have g1 := bO8.frozen 1; simp only [List.getElem?_toArray, List.getElem?_cons_zero, List.getElem?_cons_succ] at d1)
        refine ⟨⟨L ++ [q % 1000000], q / 1000000, rfl, hnext, ((hb7.trans ((OwnG.grown HO7.out hz7 hg8).mono (by omega))).setCell (by simp) _), bR8.setOther (by omega) _ _, _, by simpa using bO8.set 1 _, OwnDig.setOther (by simpa using ho8) (by omega) _ _⟩, ?_⟩
        simp only [intOf]
        omega
      · obtain rfl : q = 0 := by omega
        have hd := Lib.hid hinv.out.done
        obtain ⟨A, c, rfl⟩ := own_shape HO.out
        have r0 := bR2.cell 0
        have r1 := bR2.cell 1
        have g0 := bR2.frozen 0
        have g1 := bR2.frozen 1
        simp only [List.getElem?_toArray, List.getElem?_cons_zero, List.getElem?_cons_succ] at r0 r1
        clear hinv
        go_wp2_with fail
        have bF := (bR2.set 0 (.bool false)).set 1 (.slice A L.length c)
        have d0 := bF.cell 0
        have d1 := bF.cell 1
        simp only [List.setIfInBounds_toArray, List.set_cons_zero, List.set_cons_succ, List.getElem?_toArray, List.getElem?_cons_zero, List.getElem?_cons_succ] at d0 d1
        refine bodyPost_ret (v := .agg #[.bool false, .slice A L.length c]) (by simp [results, Tryz.results50, go_sem, d0, d1]) rfl ⟨_, rfl, L, ?_, hd.out.1, hd.out.2, ((hb.setCell (by simp) _).setCell (by simp) _)⟩
        exact OwnDig.dig (OwnDig.setOther (OwnDig.setOther HO.out (by omega) _ _) (by omega) _ _) (by omega)

end Go.Proofs.YtippffjhkinfoaaGreatDoor
