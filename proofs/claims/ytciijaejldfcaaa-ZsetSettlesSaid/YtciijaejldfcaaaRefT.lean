/-
  The reference's Copy, rows and Sum.
-/
import Derived.Test.YtciijaejldfcaaaRefI
import Derived.Test.YtciijaejldfcaaaBig6
namespace Go.Proofs.Ytciijaejldfcaaa
open Go.RowKit

theorem refCopy (v : Value) (l : List Dat) (w : World) (hv : RowV w v l) (hl : l.length * 32 ≤ 140737488355328) :
    Calls Try.prog 58 #[v] w fun e w' => ∃ v', e = .returned v' ∧ OwnD w' w.heap.size v' l ∧ Below w.heap.size w w' := by
  have HO : Hid (OwnD (w.alloc (.cells #[] 51)) w.heap.size (.slice (some ⟨w.heap.size, 0, none⟩) 0 0) []) := OwnD.lit0 w _ (Nat.le_refl _)
  have HV : Hid (RowV (w.alloc (.cells #[] 51)) v l) := hv.below ((Below.refl _ _).alloc (Nat.le_refl _) _)
  clear hv
  go_enter Try.func58, Try.ntmps58
  go_wp2_with (at_builtin; refine wpList_append_dats _ rfl _ _ rfl w.heap.size _ _ _ _ rfl rfl HO.out HV.out (by simp; omega) (by simp) ?_)
  intro v1 w1 h1 hg
  have hb := Below.trans (Below.alloc (Below.refl w.heap.size w) (Nat.le_refl _) _) (ownD_below HO.out (by simp) hg)
  clear hg
  go_wp2
  go_ret
  exact ⟨_, rfl, by simpa using h1, hb⟩

set_option maxRecDepth 100000 in
set_option maxHeartbeats 4000000 in
theorem rows_any (v : Value) (L : List Cnt) (w : World) (hv : CntV w v L) (hr : RowsIn w L) (hn : L.length ≤ 1000) :
    Calls Try.prog 54 #[v] w fun e w' => ∃ v', e = .returned v' ∧ OwnRw w' w.heap.size v' (rowsR L) ∧ Below w.heap.size w w' := by
  obtain ⟨A, c, rfl, HA⟩ : ∃ A c, v = .slice A L.length c ∧ Hid (L = [] ∨ ∃ b off, A = some ⟨b, off, none⟩ ∧ b < w.heap.size ∧ AtG encC 2 w b off L) := by
    rcases hv with ⟨rfl, rfl⟩ | ⟨b, off, cap, rfl, _, hb, hat, _⟩
    · exact ⟨none, 0, rfl, .inl rfl⟩
    · exact ⟨_, _, rfl, .inr ⟨b, off, rfl, hb, hat⟩⟩
  have HR := Lib.hid hr
  have HINV := Lib.hid (rowsR_inv L)
  have HLEN := Lib.hid (rowsR_len L)
  clear hv hr
  have hb0 := (Below.refl w.heap.size w).alloc (Nat.le_refl _) (Obj.cells #[] 42)
  go_enter Try.func54, Try.ntmps54
  go_wp2_with fail
  go_loopw [3, 9] (fun a i wr => ∃ k : Nat, k ≤ L.length ∧ i = .int .i64 k ∧ Below w.heap.size w wr ∧ Hid (OwnRw wr w.heap.size a (rowsR (L.take k)))) (fun _ i _ => L.length - (intOf i).toNat)
  case atStart => exact ⟨0, Nat.zero_le _, rfl, hb0, OwnG.lit0 42 w w.heap.size (Nat.le_refl _)⟩
  case round =>
    obtain ⟨k, hk, rfl, hb, HO⟩ := hrel
    have hz := hb.size
    by_cases hlt : k < L.length
    · obtain ⟨b, off, rfl, hbl, hat⟩ := HA.out.resolve_left (by rintro rfl; simp at hlt)
      have e0 := (hb.cell (p := ⟨b, off + k * 2 + 0, none⟩) hbl).trans (hat k _ (List.getElem?_eq_getElem hlt) 0 _ rfl)
      have e1 := (hb.cell (p := ⟨b, off + k * 2 + 1, none⟩) hbl).trans (hat k _ (List.getElem?_eq_getElem hlt) 1 _ rfl)
      rw [Nat.add_zero] at e0
      have HT := Lib.hid (rowsR_take L k hlt)
      have HCI : Hid (∀ W, Below wr.heap.size wr W → Calls Try.prog 71 #[u3, L[k].v] W fun e w' => ∃ v', e = .returned v' ∧ OwnRw w' W.heap.size v' (insR ⟨L[k].v, L[k].l⟩ (rowsR (L.take k))) ∧ Below W.heap.size W w') := fun W hW => by
        have hw2 := hb.trans (hW.mono hz)
        refine insert_any u3 ⟨L[k].v, L[k].l⟩ (rowsR (L.take k)) W ((HO.out.below hW).val hkR) ?_ ((HR.out _ (List.getElem_mem hlt)).below hw2) (by have := HLEN.out k hk; omega)
        intro y hy
        obtain ⟨c, hc, h1, h2⟩ := (HINV.out k hk).2.2 y hy
        rw [h1, h2]
        exact (HR.out c hc).below hw2
      rw [← HT.out] at HCI
      obtain ⟨Ay, ny, cy, hyv⟩ : ∃ A n c, L[k].v = .slice A n c := by
        rcases HR.out _ (List.getElem_mem hlt) with ⟨_, _, h, _⟩ | ⟨b, o, c, h, _⟩
        · exact ⟨_, _, _, h⟩
        · exact ⟨_, _, _, h⟩
      rw [hyv] at e0 HCI
      clear hat HT hyv
      revert HCI; revert e1; revert e0
      generalize L[k].n = yn
      intro e0 e1 HCI
      have hr1 := (Below.refl wr.heap.size wr).alloc (Nat.le_refl _) (.cells #[.slice Ay ny cy, .int .i64 yn] 44)
      have hw1 := hb.alloc hz (.cells #[.slice Ay ny cy, .int .i64 yn] 44)
      go_wp2_with (go_at_call 71; refine (HCI.out _ hr1).mono ?_; rintro e w3 ⟨v', rfl, ho, hb3⟩)
      go_roundw
      case rel => exact ⟨k + 1, by omega, by go_num, hw1.trans (hb3.mono hw1.size), OwnG.more ho hw1.size⟩
      case measure => simp [intOf]; omega
    · obtain rfl : k = L.length := by omega
      have HO1 := HO
      rw [List.take_length] at HO1
      go_wp2_with fail
      go_ret
      exact ⟨_, rfl, HO1.out, hb⟩

theorem zlen (m : Bool) (D : List Int) (z : Int) (hn : Norm D) (h : zOf m D = z) (h1 : -1000000000000000000000000 < z) (h2 : z < 1000000000000000000000000) : D.length ≤ 4 := by
  have := (valD_bound hn.1).1
  refine hn.len4 ?_
  cases m
  · simp [zOf] at h; omega
  · simp [zOf] at h; omega
theorem of_z (n : Int) (L : List Int) (h : valD L = if n < 0 then -n else n) : zOf (decide (n < 0)) L = n := by
  by_cases hn : n < 0
  · rw [if_pos hn] at h
    rw [decide_eq_true hn]
    simp [zOf, h]
  · rw [if_neg hn] at h
    rw [decide_eq_false hn]
    simp [zOf, h]
theorem cnt_take (L : List Cnt) (r : List Dat) (k : Nat) (h : k < L.length) : cntR (plainC (L.take (k + 1))) r = if cmpR L[k].l r = 0 then cntR (plainC (L.take k)) r + L[k].n else cntR (plainC (L.take k)) r := by
  rw [List.take_succ_eq_append_getElem h, plainC_append, cntR_append]
  show _ + ((if cmpR L[k].l r = 0 then L[k].n else 0) + 0) = _
  split <;> omega
theorem cnt_room (L : List Cnt) (r : List Dat) (k : Nat) (hn : L.length ≤ 1000) (hN : ∀ y ∈ L, -9223372036854775808 ≤ y.n ∧ y.n ≤ 9223372036854775807) : -1000000000000000000000000 < cntR (plainC (L.take k)) r ∧ cntR (plainC (L.take k)) r < 1000000000000000000000000 := by
  have h := cnt_bound 9223372036854775808 (by decide) (plainC (L.take k)) r (by
    intro x hx
    unfold plainC at hx
    obtain ⟨y, hy, rfl⟩ := List.mem_map.mp hx
    have := hN y (List.mem_of_mem_take hy)
    constructor <;> simp only <;> omega)
  have h2 : (plainC (L.take k)).length ≤ 1000 := by unfold plainC; rw [List.length_map, List.length_take]; omega
  omega

set_option maxRecDepth 100000 in
set_option maxHeartbeats 4000000 in
theorem sum_any (v : Value) (L : List Cnt) (x : Rw) (w : World) (hv : CntV w v L) (hr : RowsIn w L) (hx : RowV w x.v x.l) (hN : ∀ y ∈ L, -9223372036854775808 ≤ y.n ∧ y.n ≤ 9223372036854775807) (hn : L.length ≤ 1000) :
    Calls Try.prog 55 #[v, x.v] w (BigPost (cntR (plainC L) x.l) w) := by
  obtain ⟨A, c, rfl, HA⟩ : ∃ A c, v = .slice A L.length c ∧ Hid (L = [] ∨ ∃ b off, A = some ⟨b, off, none⟩ ∧ b < w.heap.size ∧ AtG encC 2 w b off L) := by
    rcases hv with ⟨rfl, rfl⟩ | ⟨b, off, cap, rfl, _, hb, hat, _⟩
    · exact ⟨none, 0, rfl, .inl rfl⟩
    · exact ⟨_, _, rfl, .inr ⟨b, off, rfl, hb, hat⟩⟩
  have HR := Lib.hid hr
  have HX := Lib.hid hx
  have HNN := Lib.hid hN
  obtain ⟨xv, xl⟩ := x
  have HTK := Lib.hid (cnt_take L xl)
  have HRM := Lib.hid (fun k => cnt_room L xl k hn hN)
  simp only at HX
  clear hv hr hx hN
  have hb2 := ((Below.refl w.heap.size w).alloc (Nat.le_refl _) (Obj.cells #[Value.bool false, Value.slice none 0 0] 80)).alloc (by simp) (Obj.cells #[Value.bool false, Value.slice none 0 0] 80)
  have s1 := (Blk.new w #[Value.bool false, Value.slice none 0 0] 80).alloc (Obj.cells #[Value.bool false, Value.slice none 0 0] 80)
  have s2 := Blk.at (w := w.alloc (Obj.cells #[Value.bool false, Value.slice none 0 0] 80)) (b := w.heap.size + 1) (cs := #[Value.bool false, Value.slice none 0 0]) (t := 80) (by simp)
  go_enter Try.func55, Try.ntmps55
  go_wp2_with fail
  go_loopw [11] (fun i wr => ∃ k : Nat, k ≤ L.length ∧ i = .int .i64 k ∧ Below w.heap.size w wr ∧ Blk wr w.heap.size #[.bool false, .slice none 0 0] 80 ∧ ∃ m sl D, Blk wr (w.heap.size + 1) #[.bool m, sl] 80 ∧ Hid (DigB wr (w.heap.size + 2) sl D ∧ Norm D ∧ zOf m D = cntR (plainC (L.take k)) xl)) (fun i _ => L.length - (intOf i).toNat)
  case atStart => exact ⟨0, Nat.zero_le _, rfl, hb2, s1, false, _, [], s2, ⟨⟨.inl ⟨rfl, rfl⟩, fun b off n c e => by cases e⟩, Norm.nil, rfl⟩⟩
  case round =>
    obtain ⟨k, hk, rfl, hb, bR, m, sl, D, bO, HD⟩ := hrel
    clear s1 s2 hb2
    have hz := hb.size
    have hzO := bO.lt
    by_cases hlt : k < L.length
    · obtain ⟨b, off, rfl, hbl, hat⟩ := HA.out.resolve_left (by rintro rfl; simp at hlt)
      have e0 := (hb.cell (p := ⟨b, off + k * 2 + 0, none⟩) hbl).trans (hat k _ (List.getElem?_eq_getElem hlt) 0 _ rfl)
      have e1 := (hb.cell (p := ⟨b, off + k * 2 + 1, none⟩) hbl).trans (hat k _ (List.getElem?_eq_getElem hlt) 1 _ rfl)
      rw [Nat.add_zero] at e0
      have HT := Lib.hid (HTK.out k hlt)
      have hDl : D.length ≤ 4 := zlen m D _ HD.out.2.1 HD.out.2.2 (HRM.out k).1 (HRM.out k).2
      have HSM : Hid (∀ W, Below wr.heap.size wr W → Calls Try.prog 31 #[L[k].v, xv] W (BoolPost (decide (cmpR L[k].l xl = 0)) W)) := fun W hW => refSame_any _ _ _ _ W ((HR.out _ (List.getElem_mem hlt)).below (hb.trans (hW.mono hz))) (HX.out.below (hb.trans (hW.mono hz)))
      have hyn := HNN.out _ (List.getElem_mem hlt)
      obtain ⟨Ay, ny, cy, hyv⟩ : ∃ A n c, L[k].v = .slice A n c := by
        rcases HR.out _ (List.getElem_mem hlt) with ⟨_, _, h, _⟩ | ⟨b, o, c, h, _⟩
        · exact ⟨_, _, _, h⟩
        · exact ⟨_, _, _, h⟩
      rw [hyv] at e0 HSM
      clear hat hyv
      revert hyn; revert HSM; revert HT; revert e1; revert e0
      generalize L[k].n = yn
      generalize cmpR L[k].l xl = q
      intro e0 e1 HT HSM hyn
      have hw1 := hb.alloc hz (.cells #[.slice Ay ny cy, .int .i64 yn] 44)
      have hr1 := (Below.refl wr.heap.size wr).alloc (Nat.le_refl _) (.cells #[.slice Ay ny cy, .int .i64 yn] 44)
      have bC := Blk.new wr #[.slice Ay ny cy, .int .i64 yn] 44
      by_cases hq : q = 0
      · subst hq
        rw [if_pos rfl] at HT
        go_wp2_with (go_at_call 31; refine (HSM.out _ hr1).mono ?_; rintro e w3 ⟨rfl, hg3⟩; have hb3 := hg3.toBelow; have bO3 := bO.below (hr1.trans (hb3.mono hr1.size)); have bC3 := bC.below hb3; have o0 := bO3.cell 0; have o1 := bO3.cell 1; have y0 := bC3.cell 0; have y1 := bC3.cell 1; simp only [List.getElem?_toArray, List.getElem?_cons_zero, List.getElem?_cons_succ] at o0 o1 y0 y1)
        go_region_with (first | (go_at_call 73; refine (of_any yn _ hyn.1 hyn.2).mono ?_; rintro e w4 ⟨v2, L2, rfl, hd2, hn2, hv2, hb4⟩; obtain ⟨A2, c2, rfl, hq2, hQ2⟩ := DigV.open hd2.1; clear hq2 hQ2; have bO4 := bO3.drew.below hb4; have t0 := bO4.cell 0; have t1 := bO4.cell 1; simp only [List.getElem?_toArray, List.getElem?_cons_zero, List.getElem?_cons_succ] at t0 t1; have hl2 : L2.length ≤ 100 := by have := hn2.len4 (by rw [hv2]; split <;> omega); omega) | (go_at_call 72; refine (bigPlus_any m (decide (yn < 0)) sl _ D L2 _ (HD.out.1.1.below ((hr1.trans (hb3.mono hr1.size)).drew.trans (hb4.mono (hr1.trans (hb3.mono hr1.size)).drew.size))) hd2.1 HD.out.2.1 hn2 (by omega) hl2).mono ?_; rintro e w5 ⟨m5, sl5, D5, rfl, hd5, hn5, hz5, hb5⟩; obtain ⟨A5, c5, rfl, hq5, hQ5⟩ := DigV.open hd5.1; clear hq5 hQ5; have bO5 := bO4.below hb5; have f0 := bO5.frozen 0; have f1 := bO5.frozen 1; have g0 := bO5.cell 0; have g1 := bO5.cell 1; simp only [List.getElem?_toArray, List.getElem?_cons_zero, List.getElem?_cons_succ] at g0 g1))
        all_goals
          have hr3 := (hr1.trans (hb3.mono hr1.size)).drew
          have hr4 := hr3.trans (hb4.mono hr3.size)
          have hr5 := hr4.trans (hb5.mono hr4.size)
          have hz4 := hr4.size
          have HZ : Hid (zOf m5 D5 = cntR (plainC (L.take (k + 1))) xl) := by
            unfold Hid
            rw [hz5, of_z yn L2 hv2, HT.out, HD.out.2.2]
          clear o0 o1 y0 y1 t0 t1 f0 f1 g0 g1 hz5 hv2
          go_wp2
          go_roundw
          case rel => exact ⟨k + 1, by omega, by go_num, (((hb.trans (hr5.mono hz)).setCell (by simp) _).setCell (by simp) _), ((bR.below hr5).setOther (by omega) _ _).setOther (by omega) _ _, m5, _, D5, by simpa using (bO5.set 0 (.bool m5)).set 1 (.slice A5 D5.length c5), ((hd5.set (by omega)).set (by omega)).more (by omega), hn5, HZ.out⟩
          case measure => simp [intOf]; omega
      · rw [if_neg hq] at HT
        have hqd : decide (q = 0) = false := decide_eq_false hq
        rw [hqd] at HSM
        go_wp2_with (go_at_call 31; refine (HSM.out _ hr1).mono ?_; rintro e w3 ⟨rfl, hg3⟩; have hb3 := hg3.toBelow)
        have hr3 := hr1.trans (hb3.mono hr1.size)
        go_roundw
        case rel => exact ⟨k + 1, by omega, by go_num, hb.trans (hr3.mono hz), bR.below hr3, m, sl, D, bO.below hr3, HD.out.1.below hr3, HD.out.2.1, by rw [HT.out]; exact HD.out.2.2⟩
        case measure => simp [intOf]; omega
    · obtain rfl : k = L.length := by omega
      have HD1 := HD
      rw [List.take_length] at HD1
      obtain ⟨A', c', rfl, hq2, hQ2⟩ := DigV.open HD1.out.1.1
      clear hq2 hQ2
      have o0 := bO.cell 0
      have o1 := bO.cell 1
      have r0 := bR.cell 0
      have r1 := bR.cell 1
      have f0 := bR.frozen 0
      have f1 := bR.frozen 1
      simp only [List.getElem?_toArray, List.getElem?_cons_zero, List.getElem?_cons_succ] at o0 o1 r0 r1
      go_wp2_with fail
      have bF := (bR.set 0 (.bool m)).set 1 (.slice A' D.length c')
      have d0 := bF.cell 0
      have d1 := bF.cell 1
      simp only [List.setIfInBounds_toArray, List.set_cons_zero, List.set_cons_succ, List.getElem?_toArray, List.getElem?_cons_zero, List.getElem?_cons_succ] at d0 d1
      refine bodyPost_ret (v := .agg #[.bool m, .slice A' D.length c']) (by simp [results, Try.results55, go_sem, d0, d1]) rfl ⟨m, _, D, rfl, ?_, HD1.out.2.1, HD1.out.2.2, ((hb.setCell (by simp) _).setCell (by simp) _)⟩
      exact ((HD1.out.1.set (by omega)).set (by omega)).more (by omega)

end Go.Proofs.Ytciijaejldfcaaa
