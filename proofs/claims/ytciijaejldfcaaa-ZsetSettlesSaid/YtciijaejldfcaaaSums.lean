/-
  zset.sums at counted rows: what it returns of any counted rows.
-/
import Derived.Test.YtciijaejldfcaaaSumP
import Derived.Test.YtciijaejldfcaaaKept
import Derived.RegionTactic
import Derived.Deep.RegionWith
import Derived.Deep.LoopGhost
import Derived.Deep.DeepCutAuto
import Derived.Deep.CutBlock
import Derived.Outline
import Derived.BigFrame
namespace Go.Proofs.Ytciijaejldfcaaa
open Go.RowKit

set_option maxRecDepth 100000 in
set_option maxHeartbeats 8000000 in
theorem sumsC_any (sg : Int) (hsg : sg = 1 ∨ sg = -1) (p : Nat) (v : Value) (L : List Cnt) (w : World) (hv : CntV w v L) (hr : RowsIn w L) (hB : ∀ x ∈ L, RowB x.l ∧ -9223372036854775808 ≤ x.n ∧ x.n ≤ 9223372036854775807) (hlen : L.length ≤ 1000000)
    (hC : ∀ W, Below w.heap.size w W → ∀ x ∈ L, Calls Try.prog 51 #[.agg #[x.v, .int .i64 x.n], .pointer (some ⟨p, 0, none⟩)] W (SumPost (sg * x.n) W)) :
    Calls Try.prog 53 #[v, .func (.func 50) #[] #[], .func (.func 51) #[] #[.pointer (some ⟨p, 0, none⟩)], .func (.func 52) #[] #[]] w (TidPost sg (plainC L) w) := by
  obtain ⟨i0, hi, hz0, hz1, hz2⟩ := info_parts Try.info44
  have HSG := Lib.hid hsg
  clear hsg
  have HV := Lib.hid hv
  have HR := Lib.hid hr
  have HB := Lib.hid hB
  have HC := Lib.hid hC
  have HI := Lib.hid hi
  have HZ0 := Lib.hid hz0
  have HZ1 := Lib.hid hz1
  have HZ2 := Lib.hid hz2
  clear hv hr hB hC hi hz0 hz1 hz2
  go_enter Try.func53, Try.ntmps53
  go_wp2_with fail
  refine (cloneC_any v L w HV.out HR.out hlen).mono ?_
  rintro e w1 ⟨v1, rfl, ho, hb1⟩
  go_wp2_with fail
  refine (sortC_list w w1 hb1 v1 L ho HR.out hlen).mono ?_
  rintro e w2 ⟨rfl, D, hperm, hsort, hat, hb2⟩
  obtain ⟨A1, c1, g, rfl, HA⟩ : ∃ A c g, v1 = .slice A D.length c ∧ Hid (D = [] ∨ (A = some ⟨g, 0, none⟩ ∧ D.length ≤ c ∧ w.heap.size ≤ g ∧ g < w2.heap.size ∧ AtG encC 2 w2 g 0 D)) := by
    rcases hat with ⟨A, c, rfl, rfl⟩ | ⟨g, cap, rfl, h1, h2, h3, h4, h5⟩
    · exact ⟨A, c, 0, rfl, .inl rfl⟩
    · exact ⟨_, cap, g, rfl, .inr ⟨rfl, h1, h3, h4, h5⟩⟩
  have HP := Lib.hid hperm
  have HS := Lib.hid hsort
  have HL : D.length ≤ 1000000 := by rw [hperm.length_eq]; exact hlen
  clear hat ho hperm hsort hlen
  go_wp2_with fail
  go_loopg [10, 11] D.length (fun gk r a wr => ∃ (j : Nat) (K : List Cnt) (A : Option Addr) (c : Nat), j + gk = D.length ∧ K.length ≤ j ∧ r = .slice A gk c ∧ gk ≤ c ∧ (gk = 0 ∨ ∃ o, A = some ⟨g, o, none⟩ ∧ Hid (o = j * 2)) ∧ Below w2.heap.size w2 wr ∧ Hid (OwnC wr w2.heap.size a K ∧ FreshIn wr w2.heap.size K) ∧ Hid (Bnd D j ∧ Tid sg (plainC (D.take j)) (plainC K)))
  case atStart =>
    have hc : D.length ≤ c1 ∨ D = [] := by rcases HA.out with h | h <;> simp [h]
    refine ⟨0, [], A1, c1, by omega, Nat.zero_le _, rfl, ?_, ?_, Below.refl _ _, ⟨OwnG.nil 44 _ _, by intro x hx; simp at hx⟩, ⟨bnd_zero D, by rw [List.take_zero]; exact Tid.nil sg⟩⟩
    · rcases hc with h | h
      · exact h
      · rw [h]; exact Nat.zero_le _
    · rcases HA.out with h | ⟨h, _⟩
      · left; rw [h]; rfl
      · exact .inr ⟨0, h, rfl⟩
  case round =>
    obtain ⟨j, K, A, c, hj, hKj, rfl, hgc, hA, hbv, HK, HT⟩ := hrel
    obtain ⟨wo, rfl⟩ : ∃ wo : World, wo = wr := ⟨_, rfl⟩
    have hb := hb2.trans (hbv.mono hb2.size)
    have hz := hb.size
    have hzv := hbv.size
    have HD : Hid (D = [] ∨ (w.heap.size ≤ g ∧ g < wo.heap.size ∧ g < w2.heap.size ∧ AtG encC 2 wo g 0 D)) := by
      rcases HA.out with h | ⟨_, _, h1, h2, h3⟩
      · exact .inl h
      · exact .inr ⟨h1, Nat.lt_of_lt_of_le h2 hzv, h2, h3.block (hbv.block g h2)⟩
    by_cases h0 : gk = 0
    · subst h0
      have HT2 : Hid (Tid sg (plainC L) (plainC K)) := by
        have := HT.out.2
        rw [show j = D.length by omega, List.take_length] at this
        exact this.perm (HP.out.map _)
      have HF : Hid (∀ v' : Value, OwnC wo w2.heap.size v' K → TidPost sg (plainC L) w (.returned (.tuple #[v', .int .i64 0])) wo) := fun v' ho => ⟨hb, .inr ⟨v', K, rfl, HT2.out, ho.more hb2.size, HK.out.2.more hb2.size, by have := HP.out.length_eq; simp [plainC]; omega⟩⟩
      have HO : Hid (OwnC wo w2.heap.size u11 K) := HK.out.1
      clear HT2 HK HT HD hA
      go_wp2
      go_ret2
      exact HF.out _ HO.out
    · have hpos : 0 < gk := Nat.pos_of_ne_zero h0
      have hjl : j < D.length := by omega
      have hgm : gk ≤ 1000000 := by omega
      obtain ⟨o, rfl, HOJ⟩ := hA.resolve_left h0
      obtain ⟨hg1, hg2, hg3, hat⟩ := HD.out.resolve_left (by rintro rfl; simp at hjl)
      obtain ⟨x, hx⟩ : ∃ x, D[j] = x := ⟨_, rfl⟩
      have HX := Lib.hid hx
      have hxm : x ∈ L := HP.out.mem_iff.mp (by rw [← hx]; exact List.getElem_mem hjl)
      have e0 := hat j x (by rw [← hx]; exact List.getElem?_eq_getElem hjl) 0 _ rfl
      have e1 := hat j x (by rw [← hx]; exact List.getElem?_eq_getElem hjl) 1 _ rfl
      rw [Nat.zero_add, ← HOJ.out] at e0 e1
      rw [Nat.add_zero] at e0
      have HAT := Lib.hid hat
      obtain ⟨xv, xl, xn⟩ := x
      obtain ⟨Ax, nx, cx, hxv⟩ : ∃ A n c, xv = .slice A n c := by
        rcases HR.out _ hxm with ⟨_, _, h, _⟩ | ⟨b, o, c, h, _⟩
        · exact ⟨_, _, _, h⟩
        · exact ⟨_, _, _, h⟩
      subst hxv
      simp only at e0 e1
      clear hat hx h0 hA
      go_upto_block 2 with fail
      go_cut [13] (fun s wx => ∃ k : Nat, s = .int .i64 k ∧ k ≤ gk ∧ Below wo.heap.size wo wx ∧ Blk wx wo.heap.size #[.slice Ax nx cx, .int .i64 xn] 44 ∧ Blk wx (wo.heap.size + 1) #[.int .u64 (hiS (sg * sumN (plainC (grpOf D j k)))), .int .u64 (loS (sg * sumN (plainC (grpOf D j k))))] 56 ∧ Hid (1 ≤ k ∧ Grp D j k xl))
      case first =>
        go_wp2_with fail
        go_loopw [13] (fun s wx => ∃ k : Nat, s = .int .i64 k ∧ k ≤ gk ∧ Below wo.heap.size wo wx ∧ Blk wx wo.heap.size #[.slice Ax nx cx, .int .i64 xn] 44 ∧ Blk wx (wo.heap.size + 1) #[.int .u64 (hiS (sg * sumN (plainC (grpOf D j k)))), .int .u64 (loS (sg * sumN (plainC (grpOf D j k))))] 56 ∧ Hid (∀ y ∈ grpOf D j k, y.l = xl)) (fun s _ => gk - (intOf s).toNat)
        case atStart =>
          refine ⟨0, rfl, Nat.zero_le _, ((Below.refl _ _).alloc (Nat.le_refl _) _).alloc (by simp) _, (Blk.at rfl).alloc _, ?_, by intro y hy; simp [grpOf] at hy⟩
          have : sg * sumN (plainC (grpOf D j 0)) = 0 := by simp [grpOf, plainC, sumN]
          rw [this]
          exact Blk.at (by simp)
        case round =>
          obtain ⟨k, rfl, hkg, hbx, bF, bT, HG⟩ := hrel
          have hzx := hbx.size
          have hbw := hb.trans (hbx.mono hz)
          have F0 := Blk.cell bF 0
          have F1 := Blk.cell bF 1
          simp only [List.getElem?_toArray, List.getElem?_cons_zero, List.getElem?_cons_succ] at F0 F1
          by_cases hk : k < gk
          · have hjk : j + k < D.length := by omega
            obtain ⟨y, hy⟩ : ∃ y, D[j + k] = y := ⟨_, rfl⟩
            have hym : y ∈ L := HP.out.mem_iff.mp (by rw [← hy]; exact List.getElem_mem hjk)
            have g0 := HAT.out (j + k) y (by rw [← hy]; exact List.getElem?_eq_getElem hjk) 0 _ rfl
            have g1 := HAT.out (j + k) y (by rw [← hy]; exact List.getElem?_eq_getElem hjk) 1 _ rfl
            have ho2 : (j + k) * 2 = o + k * 2 := by have := HOJ.out; omega
            rw [Nat.zero_add, ho2] at g0 g1
            rw [Nat.add_zero] at g0
            have G0 := (hbx.cell (p := ⟨g, o + k * 2, none⟩) hg2).trans g0
            have G1 := (hbx.cell (p := ⟨g, o + k * 2 + 1, none⟩) hg2).trans g1
            clear g0 g1 ho2
            have HY := Lib.hid hy
            clear hy
            obtain ⟨yv, yl, yn⟩ := y
            obtain ⟨Ay, ny, cy, hyv⟩ : ∃ A n c, yv = .slice A n c := by
              rcases HR.out _ hym with ⟨_, _, h, _⟩ | ⟨b, o, c, h, _⟩
              · exact ⟨_, _, _, h⟩
              · exact ⟨_, _, _, h⟩
            subst hyv
            simp only at G0 G1
            have HORD : Hid (∀ W, Below w.heap.size w W → Calls Try.prog 50 #[.agg #[.slice Ax nx cx, .int .i64 xn], .agg #[.slice Ay ny cy, .int .i64 yn]] W (IntPost (cmpR xl yl) W)) := fun W hW => order_any _ _ xl yl xn yn W ((HR.out _ hxm).below hW) ((HR.out _ hym).below hW)
            by_cases hX : cmpR xl yl = 0
            · have HXE := Lib.hid (cmpR_eq _ _ hX)
              rw [hX] at HORD
              clear hX
              have HK7 : Hid (∀ n : Kept wr, Calls Try.prog 50 #[.agg #[.slice Ax nx cx, .int .i64 xn], .agg #[.slice Ay ny cy, .int .i64 yn]] n.w fun e w' => e = .returned (.int .i64 0) ∧ Below n.w.heap.size n.w w') := fun n => (HORD.out n.w (hbw.trans (n.h.mono hbw.size))).mono fun _ _ h => ⟨h.1, h.2.toBelow⟩
              have k0 := fun n : Kept wr => n.cell F0
              have k1 := fun n : Kept wr => n.cell F1
              have k2 := fun n : Kept wr => n.cell G0
              have k3 := fun n : Kept wr => n.cell G1
              go_wp2_with fail
              refine wp_region_kept (by kernel_rfl) (by kernel_rfl) ?_
              repeat (go_big_quiet_step ((go_at_call 50; exact Calls.kept (HK7.out _))))
              refine wpQuiet_nil ?_
              intro wk hw'
              obtain ⟨⟨wk2, hwk⟩, hw''⟩ := hw'
              simp only at hw''
              subst hw''
              have hwx := hbx.trans (hwk.mono hzx)
              have hww := hb.trans (hwx.mono hz)
              have bF2 := bF.below hwk
              have bT2 := bT.below hwk
              have T0 := Blk.cell bT2 0
              have T1 := Blk.cell bT2 1
              simp only [List.getElem?_toArray, List.getElem?_cons_zero, List.getElem?_cons_succ] at T0 T1
              have J0 := (hwk.cell (p := ⟨g, o + k * 2, none⟩) (Nat.lt_of_lt_of_le hg2 hzx)).trans G0
              have J1 := (hwk.cell (p := ⟨g, o + k * 2 + 1, none⟩) (Nat.lt_of_lt_of_le hg2 hzx)).trans G1
              have hgk : g < wk.heap.size := Nat.lt_of_lt_of_le hg2 hwx.size
              have HCNT : Hid (∀ W, Below wk.heap.size wk W → Calls Try.prog 51 #[.agg #[.slice Ay ny cy, .int .i64 yn], .pointer (some ⟨p, 0, none⟩)] W (SumPost (sg * yn) W)) := fun W hW => HC.out W (hww.trans (hW.mono hww.size)) _ hym
              have HPLUS : Hid (∀ W, Calls Try.prog 67 #[sumV (sg * sumN (plainC (grpOf D j k))), sumV (sg * yn)] W fun e w' => e = .returned (sumV (sg * sumN (plainC (grpOf D j (k + 1))))) ∧ Below W.heap.size W w') := fun W => by
                rw [sum_succ D j k hjk sg, show D[j + k].n = yn by rw [HY.out]]
                exact (plus_any _ _ W).mono fun _ _ h => ⟨h.1, h.2.toBelow⟩
              have HG2 : Hid (∀ y ∈ grpOf D j (k + 1), y.l = xl) := by
                intro z hz'
                rw [grp_succ D j k hjk] at hz'
                rcases List.mem_append.mp hz' with h | h
                · exact HG.out z h
                · simp only [List.mem_singleton] at h
                  rw [h, HY.out]; exact HXE.out.symm
              clear HV HR HB HC HI HZ0 HZ1 HZ2 HP HS HL HA HXE hym hxm HD HK HT HAT HX HK7 k0 k1 k2 k3 HORD F0 F1 G0 G1 bF bT hwk hbw HY HG
              unfold SumPost at HCNT
              unfold sumV at HCNT HPLUS
              revert HCNT HPLUS T0 T1 bT2
              generalize hrh : hiS (sg * sumN (plainC (grpOf D j (k + 1)))) = rh
              generalize hrl : loS (sg * sumN (plainC (grpOf D j (k + 1)))) = rl
              have HRH := Lib.hid hrh
              have HRL := Lib.hid hrl
              clear hrh hrl
              generalize hiS (sg * sumN (plainC (grpOf D j k))) = ah
              generalize loS (sg * sumN (plainC (grpOf D j k))) = al
              generalize hiS (sg * yn) = ch
              generalize loS (sg * yn) = cl
              intro bT2 T0 T1 HCNT HPLUS
              go_wp2_with fail
              go_region_with (first | (go_at_call 51; refine (HCNT.out _ (Below.refl _ _).drew).mono ?_; rintro e w4 ⟨rfl, hb4⟩; have bT4 := bT2.drew.below hb4; have T40 := Blk.cell bT4 0; have T41 := Blk.cell bT4 1; simp only [List.getElem?_toArray, List.getElem?_cons_zero, List.getElem?_cons_succ] at T40 T41) | (go_at_call 67; refine (HPLUS.out _).mono ?_; rintro e w5 ⟨rfl, hb5⟩; have bT5 := Blk.below bT4 hb5; have f50 := Blk.frozen bT5 0; have f51 := Blk.frozen bT5 1; have T50 := Blk.cell bT5 0; have T51 := Blk.cell bT5 1; simp only [List.getElem?_toArray, List.getElem?_cons_zero, List.getElem?_cons_succ] at T50 T51))
              all_goals
                go_wp2
                have bF5 := (((bF2.drew.below hb4).below hb5).setOther (b' := wo.heap.size + 1) (by omega) 0 (.int .u64 rh)).setOther (b' := wo.heap.size + 1) (by omega) 1 (.int .u64 rl)
                have bT6 := (bT5.set 0 (.int .u64 rh)).set 1 (.int .u64 rl)
                have hw5 := (Below.refl wk.heap.size wk).drew.trans (hb4.trans (hb5.mono hb4.size))
                have hb6 := Below.setCell (Below.setCell (hwx.trans (hw5.mono hwx.size)) (p := ⟨wo.heap.size + 1, 0, none⟩) (by simp) (.int .u64 rh)) (p := ⟨wo.heap.size + 1, 1, none⟩) (by simp) (.int .u64 rl)
                go_roundw
                case rel => exact ⟨k + 1, by go_num, by omega, hb6, bF5, by rw [HRH.out, HRL.out]; exact bT6, HG2.out⟩
                case measure => simp [intOf]; omega
            · have HX0 : Hid (1 ≤ k ∧ Grp D j k xl) := by
                have hXX : cmpR D[j].l D[j + k].l ≠ 0 := by rw [HX.out, HY.out]; exact hX
                have hk1 : k ≠ 0 := by
                  rintro rfl
                  exact hXX (cmpR_self _)
                have := grp_end HS.out j k hjl (.inr ⟨hjk, hXX⟩) (by rw [HX.out]; exact HG.out)
                rw [HX.out] at this
                exact ⟨by omega, this⟩
              revert HORD
              generalize hX' : cmpR xl yl = X
              rw [hX'] at hX
              clear hX'
              intro HORD
              have hxb : (X == 0) = false := by simpa using hX
              clear hX
              have HK7 : Hid (∀ n : Kept wr, Calls Try.prog 50 #[.agg #[.slice Ax nx cx, .int .i64 xn], .agg #[.slice Ay ny cy, .int .i64 yn]] n.w fun e w' => e = .returned (.int .i64 X) ∧ Below n.w.heap.size n.w w') := fun n => (HORD.out n.w (hbw.trans (n.h.mono hbw.size))).mono fun _ _ h => ⟨h.1, h.2.toBelow⟩
              have k0 := fun n : Kept wr => n.cell F0
              have k1 := fun n : Kept wr => n.cell F1
              have k2 := fun n : Kept wr => n.cell G0
              have k3 := fun n : Kept wr => n.cell G1
              go_wp2_with fail
              refine wp_region_kept (by kernel_rfl) (by kernel_rfl) ?_
              repeat (go_big_quiet_step ((go_at_call 50; exact Calls.kept (HK7.out _))))
              refine wpQuiet_nil ?_
              intro wk hw'
              obtain ⟨⟨wk2, hwk⟩, hw''⟩ := hw'
              simp only at hw''
              subst hw''
              go_wp2_with fail
              go_meet
              exact ⟨k, rfl, hkg, hbx.trans (hwk.mono hzx), bF.below hwk, bT.below hwk, HX0.out⟩
          · obtain rfl : k = gk := by omega
            have HX0 : Hid (1 ≤ k ∧ Grp D j k xl) := by
              have := grp_end HS.out j k hjl (.inl hj) (by rw [HX.out]; exact HG.out)
              rw [HX.out] at this
              exact ⟨hpos, this⟩
            go_wp2_with fail
            refine wp_region_kept (by kernel_rfl) (by kernel_rfl) ?_
            repeat (go_big_quiet_step (fail))
            refine wpQuiet_nil ?_
            intro wk hw'
            obtain ⟨⟨wk2, hwk⟩, hw''⟩ := hw'
            simp only at hw''
            subst hw''
            go_wp2_with fail
            go_meet
            exact ⟨k, rfl, hkg, hbx.trans (hwk.mono hzx), bF.below hwk, bT.below hwk, HX0.out⟩
      case rest =>
        obtain ⟨k, rfl, hkg, hbx, bF, bT, HG⟩ := hcut
        have hzx := hbx.size
        have hbw := hb.trans (hbx.mono hz)
        go_upto_region 10 with fail
        go_cut [10] (fun r wx => wx = wc ∧ ∃ (A2 : Option Addr) (c2 : Nat), r = .slice A2 (gk - k) c2 ∧ gk - k ≤ c2 ∧ (gk - k = 0 ∨ ∃ o2, A2 = some ⟨g, o2, none⟩ ∧ Hid (o2 = (j + k) * 2)))
        case first =>
          have HO2 : Hid (o + k * 2 = (j + k) * 2) := by
            have := HOJ.out
            unfold Hid
            omega
          rcases Nat.lt_or_ge k c with hkc | hkc
          · go_wp2_with fail
            go_meet
            exact ⟨rfl, _, _, rfl, by omega, .inr ⟨_, rfl, HO2⟩⟩
          · obtain rfl : k = c := by omega
            obtain rfl : gk = k := by omega
            go_wp2_with fail
            go_meet
            exact ⟨rfl, some ⟨g, o, none⟩, 0, by rw [Nat.sub_self], by omega, .inl (by omega)⟩
        case rest =>
          obtain ⟨rfl, A2, c2, rfl, hc2, HA2⟩ := hcut
          have HAA := Lib.hid HA2
          clear HA2
          have F0 := Blk.cell bF 0
          have F1 := Blk.cell bF 1
          have T0 := Blk.cell bT 0
          have T1 := Blk.cell bT 1
          simp only [List.getElem?_toArray, List.getElem?_cons_zero, List.getElem?_cons_succ] at F0 F1 T0 T1
          have hSB : ∀ i, -170141183460469231731687303715884105728 ≤ sg * sumN (plainC (grpOf D j i)) ∧ sg * sumN (plainC (grpOf D j i)) < 170141183460469231731687303715884105728 := fun i => sum_small sg HSG.out D j i HL (fun x hx => (HB.out x (HP.out.mem_iff.mp hx)).2)
          have HNUM : Hid (∀ W, Calls Try.prog 68 #[sumV (sg * sumN (plainC (grpOf D j k)))] W fun e w' => e = .returned (.tuple #[.int .i64 (IntKind.i64.wrap (loS (sg * sumN (plainC (grpOf D j k))))), .bool (fitsB (sg * sumN (plainC (grpOf D j k))))]) ∧ Gr W.heap.size W w') := fun W => number_any _ W (hSB k).1 (hSB k).2
          clear hSB
          by_cases hf : fitsB (sg * sumN (plainC (grpOf D j k))) = true
          · have hff := hf
            unfold fitsB at hff
            rw [decide_eq_true_eq] at hff
            rw [fits_num _ hff.1 hff.2, hf] at HNUM
            have HTN := Lib.hid (tid_next (r := xl) hjl (by rw [HX.out]) HT.out.1 HG.out.2 HT.out.2 hf)
            have HBN := Lib.hid (bnd_next HT.out.1 HG.out.2)
            have hbw6 : ∀ w6, Below wc.heap.size wc w6 → Below wo.heap.size wo w6 := fun w6 h6 => hbx.trans (h6.mono hzx)
            have hk1 := HG.out.1
            have HTOLD : Hid (∀ W, Below w.heap.size w W → ∀ m : Int, Calls Try.prog 52 #[.agg #[.slice Ax nx cx, .int .i64 xn], .int .i64 m] W (ToldPost xl m W)) := fun W hW m => told_any _ xl xn m W ((HR.out _ hxm).below hW) (HB.out _ hxm).1
            clear hf hff HT HD HAT HG
            revert HNUM T0 T1
            unfold sumV
            generalize hiS (sg * sumN (plainC (grpOf D j k))) = ah
            generalize loS (sg * sumN (plainC (grpOf D j k))) = al
            revert HTN
            generalize sg * sumN (plainC (grpOf D j k)) = S
            intro HTN T0 T1 HNUM
            by_cases hS : S = 0
            · subst hS
              have HKN := Lib.hid (HK.out)
              have HT9 := Lib.hid (HTN.out.1 rfl)
              clear HTN
              go_wp2_with (go_at_call 68; refine (HNUM.out _).mono ?_; rintro e w6 ⟨rfl, hb6⟩)
              have h6 := hbw6 w6 hb6.toBelow
              go_roundg (gk - k)
              case measure => omega
              case rel => exact ⟨j + k, K, A2, c2, by omega, by omega, rfl, hc2, HAA.out, hbv.trans (h6.mono hzv), ⟨HKN.out.1.below h6, HKN.out.2.below h6⟩, ⟨HBN.out, HT9.out⟩⟩
            · have hSb : (S != 0) = true := by simpa using hS
              have hSc : (S == 0) = false := by simpa using hS
              have HT9 := Lib.hid (HTN.out.2 hS)
              clear hS HTN
              have HKN := Lib.hid (HK.out)
              have hK1 : K.length + 1 ≤ 1000001 := by omega
              go_wp2_with (first | (go_at_call 68; refine (HNUM.out _).mono ?_; rintro e w6 ⟨rfl, hb6⟩; have h6 := hbw6 w6 hb6.toBelow; have hw6 := hb.trans (h6.mono hz); have F60 := (hb6.toBelow.cell (p := ⟨wo.heap.size, 0, none⟩) bF.lt).trans F0; have F61 := (hb6.toBelow.cell (p := ⟨wo.heap.size, 1, none⟩) bF.lt).trans F1) | (go_at_call 52; refine (HTOLD.out _ hw6 S).mono ?_; rintro e w7 ⟨v7, rfl, hfr, hb7⟩; obtain ⟨bf, rfl, hbf, hbk⟩ := hfr; have HBK := Lib.hid hbk; clear hbk) | (at_builtin; have h7 := h6.trans (hb7.mono h6.size); have h7a := h7.alloc h7.size (.cells #[.slice (some ⟨bf, 0, none⟩) xl.length xl.length, .int .i64 S] 44); have HO7 := Lib.hid (HKN.out.1.below h7a); have HV7 := Lib.hid (valC_lit w7 ⟨.slice (some ⟨bf, 0, none⟩) xl.length xl.length, xl, S⟩); refine wpList_append_g hkC (by decide) 22 44 i0 _ 32 Try.underlying22 HI.out HZ0.out HZ1.out HZ2.out rfl _ rfl (.tmp 64) (.tmp 69) rfl w2.heap.size _ _ K [⟨.slice (some ⟨bf, 0, none⟩) xl.length xl.length, xl, S⟩] rfl rfl HO7.out HV7.out (by intro x hx u hu; simp only [List.mem_singleton] at hx; subst hx; simp [encC] at hu; rcases hu with rfl | rfl <;> rfl) (by unfold maxLen; simp; omega) (by simp; omega) (by have := h7.size; simp; omega) ?_; intro v8 w8 ho8 hg8))
              have HF7 : Hid (FreshIn (w7.alloc (.cells #[.slice (some ⟨bf, 0, none⟩) xl.length xl.length, .int .i64 S] 44)) w2.heap.size (K ++ [⟨.slice (some ⟨bf, 0, none⟩) xl.length xl.length, xl, S⟩])) := by
                intro z hz'
                rcases List.mem_append.mp hz' with h | h
                · exact (HKN.out.2 z h).below h7a
                · simp only [List.mem_singleton] at h
                  subst h
                  exact ⟨bf, rfl, Nat.le_trans (Nat.le_trans hzv h6.size) hbf, HBK.out.alloc _⟩
              have hb8 := OwnG.grown HO7.out (by have := h7.size; simp; omega) hg8
              have hf8 := HF7.out.kept HO7.out hg8
              go_roundg (gk - k)
              case measure => omega
              case rel => exact ⟨j + k, _, A2, c2, by omega, by simp; omega, rfl, hc2, HAA.out, (hbv.trans (h7a.mono hzv)).trans hb8, ⟨ho8, hf8⟩, ⟨HBN.out, by rw [plainC_append]; exact HT9.out⟩⟩
          · have hf0 : fitsB (sg * sumN (plainC (grpOf D j k))) = false := by simpa using hf
            have HN : Hid (∃ q, fitsB (sg * cntR (plainC L) q) = false) := tid_none HP.out hjl (by rw [HX.out]) HT.out.1 HG.out.2 hf0
            rw [hf0] at HNUM
            clear hf hf0
            revert HNUM T0 T1
            unfold sumV
            generalize IntKind.i64.wrap (loS (sg * sumN (plainC (grpOf D j k)))) = m
            generalize hiS (sg * sumN (plainC (grpOf D j k))) = ah
            generalize loS (sg * sumN (plainC (grpOf D j k))) = al
            intro T0 T1 HNUM
            go_wp2_with (go_at_call 68; refine (HNUM.out _).mono ?_; rintro e w6 ⟨rfl, hb6⟩)
            go_ret2
            exact ⟨hbw.trans (hb6.toBelow.mono hbw.size), .inl ⟨HN.out, rfl⟩⟩

end Go.Proofs.Ytciijaejldfcaaa
