/-
  The walk of the law ZsetTimes: UNDER WAY.
-/
import Derived.Test.YtciijaejldfcaaaAppAt
import Derived.Test.YtciijaejldfcaaaTimR
import Derived.Test.YtciijaejldfcaaaOrder
namespace Go.Proofs.Ytciijaejldfcaaa
open Go.RowKit

theorem betw_take (s t : Int) (M : List Up.Cnt) (k : Nat) (h : k < M.length) : Up.betw s t ((M.take (k + 1)).map Up.smallU) = if s < M[k].l.1 ∧ M[k].l.1 ≤ t then Up.betw s t ((M.take k).map Up.smallU) ++ [Up.smallU M[k]] else Up.betw s t ((M.take k).map Up.smallU) := by
  unfold Up.betw
  rw [List.take_succ_eq_append_getElem h, List.map_append, List.filter_append]
  by_cases hc : s < M[k].l.1 ∧ M[k].l.1 ≤ t
  · rw [if_pos hc, List.map_cons, List.map_nil, List.filter_cons_of_pos (by rw [Bool.and_eq_true]; exact ⟨decide_eq_true hc.1, decide_eq_true hc.2⟩), List.filter_nil]
  · rw [if_neg hc, List.map_cons, List.map_nil, List.filter_cons_of_neg (by intro h; rw [Bool.and_eq_true] at h; exact hc ⟨of_decide_eq_true h.1, of_decide_eq_true h.2⟩), List.filter_nil, List.append_nil]
theorem betw_len (s t : Int) (M : List Up.Cnt) : (Up.betw s t M).length ≤ M.length := List.length_filter_le _ _

set_option maxRecDepth 100000 in
set_option maxHeartbeats 16000000 in
theorem times_le (v : Value) (X : List Up.Cnt) (s t : Int) (w : World) (hst : s ≤ t) (hv : Up.CntV w v X) (hr : Up.RowsIn w X) (hbx : ∀ x ∈ X, RowB x.l.2 ∧ (-9223372036854775808 ≤ x.l.1 ∧ x.l.1 ≤ 9223372036854775807) ∧ -9223372036854775808 ≤ x.n ∧ x.n ≤ 9223372036854775807) :
    Calls Try.prog 7 #[v, .int .i64 s, .int .i64 t] w (BoolB true w) := by
  obtain ⟨j0, hj, hy0, hy1, hy2⟩ := info_parts info48
  have HJ := Lib.hid hj
  have HY0 := Lib.hid hy0
  have HY1 := Lib.hid hy1
  have HY2 := Lib.hid hy2
  clear hj hy0 hy1 hy2
  have HCUT := Lib.hid (fun W (hW : Below w.heap.size w W) => Up.cut_any v X W (hv.below hW))
  have HRM : Hid (∀ x ∈ X.take 60, RowV w x.v x.l.2) := fun x hx => hr x (List.mem_of_mem_take hx)
  have HBM : Hid (∀ x ∈ X.take 60, RowB x.l.2 ∧ (-9223372036854775808 ≤ x.l.1 ∧ x.l.1 ≤ 9223372036854775807) ∧ -9223372036854775808 ≤ x.n ∧ x.n ≤ 9223372036854775807) := fun x hx => hbx x (List.mem_of_mem_take hx)
  have hM60 : (X.take 60).length ≤ 60 := by rw [List.length_take]; omega
  clear hv hr hbx
  have hns : ¬ t < s := by omega
  go_enter Try.func7, Try.ntmps7
  go_wp2_with fail
  refine (alive_any _).mono ?_
  rintro e w1 ⟨rfl, hb1⟩
  go_wp2_with fail
  refine (HCUT.out _ hb1).mono ?_
  rintro e w2 ⟨v1, rfl, hv1, rfl⟩
  clear HCUT
  obtain ⟨A, c, rfl, HA⟩ : ∃ A c, v1 = .slice A (X.take 60).length c ∧ Hid ((X.take 60) = [] ∨ ∃ b off, A = some ⟨b, off, none⟩ ∧ b < w1.heap.size ∧ AtG Up.encC 3 w1 b off (X.take 60)) := by
    rcases hv1 with ⟨rfl, h⟩ | ⟨b, off, cap, rfl, _, hb, hat, _⟩
    · exact ⟨none, 0, by rw [h]; rfl, .inl h⟩
    · exact ⟨_, _, rfl, .inr ⟨b, off, rfl, hb, hat⟩⟩
  clear hv1
  revert HA HRM HBM hM60
  generalize X.take 60 = M
  intro HRM HBM hM60 HA
  go_wp2_with fail
  go_loopw [7, 8, 43] (fun a d i wr => ∃ k : Nat, k ≤ M.length ∧ i = .int .i64 k ∧ Below w1.heap.size w1 wr ∧ Hid (Up.OwnC wr w1.heap.size a ((M.take k).map Up.smallU) ∧ Up.OwnC wr w1.heap.size d (Up.betw s t ((M.take k).map Up.smallU)) ∧ Apart a d)) (fun _ _ i _ => M.length - (intOf i).toNat)
  case atStart => exact ⟨0, Nat.zero_le _, rfl, Below.refl _ _, OwnG.nil 48 _ _, OwnG.nil 48 _ _, .inl rfl⟩
  case round =>
    obtain ⟨k, hk, rfl, hb, HO⟩ := hrel
    have hz := hb.size
    by_cases hlt : k < M.length
    · obtain ⟨b, off, rfl, hbl, hat⟩ := HA.out.resolve_left (by rintro rfl; simp at hlt)
      have HX := Lib.hid (betw_take s t M k hlt)
      have HT : Hid ((M.take (k + 1)).map Up.smallU = (M.take k).map Up.smallU ++ [Up.smallU M[k]]) := by
        unfold Hid
        rw [List.take_succ_eq_append_getElem hlt, List.map_append]
        rfl
      obtain ⟨x, hx⟩ : ∃ x, M[k] = x := ⟨_, rfl⟩
      have e0 := hat k x (by rw [← hx]; exact List.getElem?_eq_getElem hlt) 0 _ rfl
      have e1 := hat k x (by rw [← hx]; exact List.getElem?_eq_getElem hlt) 1 _ rfl
      have e2 := hat k x (by rw [← hx]; exact List.getElem?_eq_getElem hlt) 2 _ rfl
      rw [Nat.add_zero] at e0
      have c0 := (hb.cell (p := ⟨b, off + k * 3, none⟩) hbl).trans e0
      have c1 := (hb.cell (p := ⟨b, off + k * 3 + 1, none⟩) hbl).trans e1
      have c2 := (hb.cell (p := ⟨b, off + k * 3 + 2, none⟩) hbl).trans e2
      rw [hx] at HX HT
      obtain ⟨Ax, nx, cx, hxv⟩ := Up.shp_of HRM.out x (by rw [← hx]; exact List.getElem_mem hlt)
      clear hat e0 e1 e2 hx
      obtain ⟨xv, ⟨xt, xr⟩, xn⟩ := x
      subst hxv
      simp only at c0 c1 c2 HX
      have hml : ((M.take k).map Up.smallU).length + 1 ≤ 61 := by rw [List.length_map, List.length_take]; omega
      have hmd := betw_len s t ((M.take k).map Up.smallU)
      have hts := tmod_small xn
      have bU := Blk.new wr #[.slice Ax nx cx, .int .i64 xt, .int .i64 (xn.tmod 1000000)] 48
      have hb7 := (hb.alloc hz (.cells #[.slice Ax nx cx, .int .i64 xt, .int .i64 (xn.tmod 1000000)] 48)).alloc (by simp; omega) (.cells #[.slice Ax nx cx, .int .i64 xt, .int .i64 (xn.tmod 1000000)] 48)
      have bU7 := Lib.hid (bU.alloc (.cells #[.slice Ax nx cx, .int .i64 xt, .int .i64 (xn.tmod 1000000)] 48))
      have HO7 := Lib.hid ((HO.out.1.alloc (.cells #[.slice Ax nx cx, .int .i64 xt, .int .i64 (xn.tmod 1000000)] 48)).alloc (.cells #[.slice Ax nx cx, .int .i64 xt, .int .i64 (xn.tmod 1000000)] 48))
      have HD7 := Lib.hid ((HO.out.2.1.alloc (.cells #[.slice Ax nx cx, .int .i64 xt, .int .i64 (xn.tmod 1000000)] 48)).alloc (.cells #[.slice Ax nx cx, .int .i64 xt, .int .i64 (xn.tmod 1000000)] 48))
      have HV7 := Lib.hid (valU_at (wr.alloc (.cells #[.slice Ax nx cx, .int .i64 xt, .int .i64 (xn.tmod 1000000)] 48)) (wr.heap.size + 1) (Up.smallU ⟨.slice Ax nx cx, (xt, xr), xn⟩) (by simp))
      clear bU
      by_cases hin1 : s < xt
      · by_cases hin2 : xt ≤ t
        · rw [if_pos ⟨hin1, hin2⟩] at HX
          go_wp2_with (first | (at_builtin; refine wpList_append_ga Up.hkC (by decide) 30 48 j0 _ 40 Try.underlying30 HJ.out HY0.out HY1.out HY2.out rfl _ rfl (.tmp 51) (.tmp 53) rfl w1.heap.size _ _ ((M.take k).map Up.smallU) [Up.smallU ⟨.slice Ax nx cx, (xt, xr), xn⟩] rfl rfl HO7.out HV7.out (one_up _ _ _ _ _) (by unfold maxLen; simp only [List.length_singleton]; omega) (by simp only [List.length_singleton]; omega) hb7.size ?_; intro v8 w8 ho8 hg8 hl8; have bU8 : Blk w8 wr.heap.size #[.slice Ax nx cx, .int .i64 xt, .int .i64 (xn.tmod 1000000)] 48 := (hg8.block wr.heap.size (by simp; omega) (fun e => absurd (HO.out.1.lt _ e.symm).2 (Nat.lt_irrefl _))).trans bU7.out; have u0 := Blk.cell bU8 0; have u1 := Blk.cell bU8 1; have u2 := Blk.cell bU8 2; simp only [List.getElem?_toArray, List.getElem?_cons_zero, List.getElem?_cons_succ] at u0 u1 u2; have hb8 := hb7.trans (OwnG.grown HO7.out hb7.size hg8); have HD8 := Lib.hid (HD7.out.kept hg8 HO.out.2.2.symm.left)) | (at_builtin; have HL8 := Lib.hid ((ho8.alloc (.cells #[.slice Ax nx cx, .int .i64 xt, .int .i64 (xn.tmod 1000000)] 48))); have HM8 := Lib.hid ((HD8.out.alloc (.cells #[.slice Ax nx cx, .int .i64 xt, .int .i64 (xn.tmod 1000000)] 48))); have HV8 := Lib.hid (valU_at w8 w8.heap.size (Up.smallU ⟨.slice Ax nx cx, (xt, xr), xn⟩) rfl); refine wpList_append_ga Up.hkC (by decide) 30 48 j0 _ 40 Try.underlying30 HJ.out HY0.out HY1.out HY2.out rfl _ rfl (.tmp 65) (.tmp 67) rfl w1.heap.size _ _ (Up.betw s t ((M.take k).map Up.smallU)) [Up.smallU ⟨.slice Ax nx cx, (xt, xr), xn⟩] rfl rfl HM8.out HV8.out (one_up _ _ _ _ _) (by unfold maxLen; simp only [List.length_singleton]; omega) (by simp only [List.length_singleton]; omega) (hb8.alloc hb8.size _).size ?_; intro v9 w9 ho9 hg9 hl9))
          have hap8 : Apart v8 u8 := HO.out.2.2.grow hl8 (fun x hx => Nat.lt_of_lt_of_le (HO.out.2.1.lt x hx).2 (by simp; omega))
          have hap : Apart v8 v9 := (hap8.symm.grow hl9 (fun x hx => Nat.lt_of_lt_of_le (ho8.lt x hx).2 (by simp))).symm
          have hb9 := (hb8.alloc hb8.size _).trans (OwnG.grown HM8.out (hb8.alloc hb8.size _).size hg9)
          have HL9 := Lib.hid (HL8.out.kept hg9 hap8.left)
          go_roundw
          case rel => exact ⟨k + 1, by omega, by go_num, hb9, by rw [HT.out]; exact HL9.out, by rw [HX.out]; exact ho9, hap⟩
          case measure => simp [intOf]; omega
        · rw [if_neg (fun h => hin2 h.2)] at HX
          go_wp2_with (at_builtin; refine wpList_append_ga Up.hkC (by decide) 30 48 j0 _ 40 Try.underlying30 HJ.out HY0.out HY1.out HY2.out rfl _ rfl (.tmp 51) (.tmp 53) rfl w1.heap.size _ _ ((M.take k).map Up.smallU) [Up.smallU ⟨.slice Ax nx cx, (xt, xr), xn⟩] rfl rfl HO7.out HV7.out (one_up _ _ _ _ _) (by unfold maxLen; simp only [List.length_singleton]; omega) (by simp only [List.length_singleton]; omega) hb7.size ?_; intro v8 w8 ho8 hg8 hl8; have bU8 : Blk w8 wr.heap.size #[.slice Ax nx cx, .int .i64 xt, .int .i64 (xn.tmod 1000000)] 48 := (hg8.block wr.heap.size (by simp; omega) (fun e => absurd (HO.out.1.lt _ e.symm).2 (Nat.lt_irrefl _))).trans bU7.out; have u0 := Blk.cell bU8 0; have u1 := Blk.cell bU8 1; have u2 := Blk.cell bU8 2; simp only [List.getElem?_toArray, List.getElem?_cons_zero, List.getElem?_cons_succ] at u0 u1 u2; have hb8 := hb7.trans (OwnG.grown HO7.out hb7.size hg8); have HD8 := Lib.hid (HD7.out.kept hg8 HO.out.2.2.symm.left))
          have hap : Apart v8 u8 := HO.out.2.2.grow hl8 (fun x hx => Nat.lt_of_lt_of_le (HO.out.2.1.lt x hx).2 (by simp; omega))
          go_roundw
          case rel => exact ⟨k + 1, by omega, by go_num, hb8, by rw [HT.out]; exact ho8, by rw [HX.out]; exact HD8.out, hap⟩
          case measure => simp [intOf]; omega
      · rw [if_neg (fun h => hin1 h.1)] at HX
        go_wp2_with (at_builtin; refine wpList_append_ga Up.hkC (by decide) 30 48 j0 _ 40 Try.underlying30 HJ.out HY0.out HY1.out HY2.out rfl _ rfl (.tmp 51) (.tmp 53) rfl w1.heap.size _ _ ((M.take k).map Up.smallU) [Up.smallU ⟨.slice Ax nx cx, (xt, xr), xn⟩] rfl rfl HO7.out HV7.out (one_up _ _ _ _ _) (by unfold maxLen; simp only [List.length_singleton]; omega) (by simp only [List.length_singleton]; omega) hb7.size ?_; intro v8 w8 ho8 hg8 hl8; have bU8 : Blk w8 wr.heap.size #[.slice Ax nx cx, .int .i64 xt, .int .i64 (xn.tmod 1000000)] 48 := (hg8.block wr.heap.size (by simp; omega) (fun e => absurd (HO.out.1.lt _ e.symm).2 (Nat.lt_irrefl _))).trans bU7.out; have u0 := Blk.cell bU8 0; have u1 := Blk.cell bU8 1; have u2 := Blk.cell bU8 2; simp only [List.getElem?_toArray, List.getElem?_cons_zero, List.getElem?_cons_succ] at u0 u1 u2; have hb8 := hb7.trans (OwnG.grown HO7.out hb7.size hg8); have HD8 := Lib.hid (HD7.out.kept hg8 HO.out.2.2.symm.left))
        have hap : Apart v8 u8 := HO.out.2.2.grow hl8 (fun x hx => Nat.lt_of_lt_of_le (HO.out.2.1.lt x hx).2 (by simp; omega))
        go_roundw
        case rel => exact ⟨k + 1, by omega, by go_num, hb8, by rw [HT.out]; exact ho8, by rw [HX.out]; exact HD8.out, hap⟩
        case measure => simp [intOf]; omega
    · obtain rfl : k = M.length := by omega
      have HO1 : Hid (Up.OwnC wr w1.heap.size u7 (M.map Up.smallU)) := by have h := HO.out.1; rwa [List.take_length] at h
      have HD1 : Hid (Up.OwnC wr w1.heap.size u8 (Up.betw s t (M.map Up.smallU))) := by have h := HO.out.2.1; rwa [List.take_length] at h
      have hcr := hb1.trans (hb.mono hb1.size)
      have UR := Lib.hid (fun W (hW : Below wr.heap.size wr W) => Up.upRows_small (M := M) (fun x hx => (HRM.out x hx).below (hcr.trans (hW.mono hcr.size))) (fun x hx => (HBM.out x hx).1))
      have SM := Lib.hid (Up.small_of M hM60)
      clear HO HA HRM HBM hM60
      revert HO1 HD1 UR SM
      generalize M.map Up.smallU = SS
      intro HO1 HD1 UR SM
      obtain ⟨wo, rfl⟩ : ∃ wo : World, wo = wr := ⟨_, rfl⟩
      obtain ⟨Al, cl, rfl⟩ := Up.OwnC.shp HO1.out
      obtain ⟨AB, cB, rfl⟩ := Up.OwnC.shp HD1.out
      have Du : Hid (Up.UpdIns wo (.slice Al SS.length cl) SS) := ⟨HO1.out.val Up.hkC, (UR.out _ (Below.refl _ _)).1, (UR.out _ (Below.refl _ _)).2, by have := SM.out.1; omega⟩
      have HRB : Hid (∀ x ∈ SS, RowB x.l.2) := fun x hx => ((UR.out _ (Below.refl _ _)).2 x hx).1
      have HBV := Lib.hid (HD1.out.val Up.hkC)
      have hS60 : SS.length ≤ 60 := SM.out.1
      have plen : ∀ K : List Cnt, (plainC K).length = K.length := fun K => by unfold plainC; rw [List.length_map]
      have PL := Lib.hid plen
      have plu : ∀ K : List Up.Cnt, (Up.plainC K).length = K.length := fun K => by unfold Up.plainC; rw [List.length_map]
      have PLU := Lib.hid plu
      clear plen plu HO1 HD1
      have hc0 : Below wo.heap.size wo wo := Below.refl _ _
      go_wp2_with fail
      refine (Up.settle_ok _ SS _ Du.out SM.out.fit).mono ?_
      rintro e w3 ⟨e, Ke, rfl, hb3, hte, hoe, hfe, hle⟩
      rw [PLU.out] at hle
      have Ie := Lib.hid (Up.tid_ins hte hoe hfe (Up.plain_rows HRB.out) (by omega))
      have Te := Lib.hid hte
      obtain ⟨Ae, ce, rfl⟩ := Up.OwnC.shp hoe
      clear hte hoe hfe
      replace Du := Lib.hid (Du.out.below hb3)
      replace HBV := Lib.hid (HBV.out.below hb3)
      have hc3 := hc0.trans (hb3.mono hc0.size)
      go_wp2_with fail
      refine (Up.later_ok _ SS s _ Du.out (SM.out.later s).fit).mono ?_
      rintro e w4 ⟨f, Kf, rfl, hb4, htf, hof, hff, hlf⟩
      rw [PLU.out] at hlf
      have If := Lib.hid (Up.tid_ins htf hof hff (Up.plain_rows (fun x hx => by obtain ⟨y, hy, rfl⟩ := List.mem_map.mp hx; exact HRB.out y hy)) (by rw [List.length_map] at hlf; omega))
      have Tf := Lib.hid htf
      obtain ⟨Af, cf, rfl⟩ := Up.OwnC.shp hof
      clear htf hof hff
      replace Du := Lib.hid (Du.out.below hb4)
      replace HBV := Lib.hid (HBV.out.below hb4)
      replace Ie := Lib.hid (Ie.out.below hb4)
      have hc4 := hc3.trans (hb4.mono hc3.size)
      have HFT : Hid (∀ r, cntR (plainC (Up.atC Kf t)) r = cntR (plainC (Up.atC SS t)) r) := fun r => by rw [Up.at_tid Tf.out t r, Up.at_later hst]
      have HET : Hid (∀ r, cntR (plainC (Up.atC Ke t)) r = cntR (plainC (Up.atC SS t)) r) := fun r => Up.at_tid Te.out t r
      have hLa := Up.atC_len SS t
      have hLs := Up.atC_len SS s
      have hLe := Up.atC_len Ke t
      have hLf := Up.atC_len Kf t
      have hLB := betw_len s t SS
      rw [List.length_map] at hlf
      go_wp2_with fail
      refine (Up.at_ok _ SS t _ Du.out ((SM.out.at t).fit (by decide)).1).mono ?_
      rintro e w5 ⟨a, Ka, rfl, hb5, hta, hoa, hfa, hla⟩
      rw [PL.out] at hla
      have Ia := Lib.hid (tid_ins hta hoa hfa (Up.plain_at HRB.out t) (by omega))
      have Ta := Lib.hid hta
      obtain ⟨Aa, ca, rfl⟩ := OwnC.shp hoa
      clear hta hoa hfa
      replace Du := Lib.hid (Du.out.below hb5)
      replace HBV := Lib.hid (HBV.out.below hb5)
      replace Ie := Lib.hid (Ie.out.below hb5)
      replace If := Lib.hid (If.out.below hb5)
      have hc5 := hc4.trans (hb5.mono hc4.size)
      go_wp2_with fail
      refine (Up.at_ok _ Ke t _ Ie.out ((Up.CntLe.same (SM.out.at t) HET.out).fit (by decide)).1).mono ?_
      rintro e w6 ⟨b, Kb, rfl, hb6, htb, hob, hfb, hlb⟩
      rw [PL.out] at hlb
      have Ib := Lib.hid (tid_ins htb hob hfb (Up.plain_at (fun x hx => (Ie.out.2.2.1 x hx).1) t) (by omega))
      have Tb := Lib.hid htb
      obtain ⟨Ab, cb, rfl⟩ := OwnC.shp hob
      clear htb hob hfb
      replace Du := Lib.hid (Du.out.below hb6)
      replace HBV := Lib.hid (HBV.out.below hb6)
      replace Ie := Lib.hid (Ie.out.below hb6)
      replace If := Lib.hid (If.out.below hb6)
      replace Ia := Lib.hid (Ia.out.below hb6)
      have hc6 := hc5.trans (hb6.mono hc5.size)
      go_wp2_with fail
      refine (Up.at_ok _ Kf t _ If.out ((Up.CntLe.same (SM.out.at t) HFT.out).fit (by decide)).1).mono ?_
      rintro e w7 ⟨c, Kc, rfl, hb7, htc, hoc, hfc, hlc⟩
      rw [PL.out] at hlc
      have Ic := Lib.hid (tid_ins htc hoc hfc (Up.plain_at (fun x hx => (If.out.2.2.1 x hx).1) t) (by omega))
      have Tc := Lib.hid htc
      obtain ⟨Ac, cc, rfl⟩ := OwnC.shp hoc
      clear htc hoc hfc
      replace Du := Lib.hid (Du.out.below hb7)
      replace HBV := Lib.hid (HBV.out.below hb7)
      replace Ie := Lib.hid (Ie.out.below hb7)
      replace If := Lib.hid (If.out.below hb7)
      replace Ia := Lib.hid (Ia.out.below hb7)
      replace Ib := Lib.hid (Ib.out.below hb7)
      have hc7 := hc6.trans (hb7.mono hc6.size)
      go_wp2_with fail
      refine (Up.at_ok _ SS s _ Du.out ((SM.out.at s).fit (by decide)).1).mono ?_
      rintro e w8 ⟨vi, Ki, rfl, hb8, hti, hoi, hfi, hli⟩
      rw [PL.out] at hli
      have Ti := Lib.hid hti
      have HRI := Lib.hid (fun W (hF : FreshIn W w7.heap.size Ki) => tid_rowIns hti hF (Up.plain_at HRB.out s))
      have OI := Lib.hid hoi
      have FI := Lib.hid hfi
      have hc8 := hc7.trans (hb8.mono hc7.size)
      clear hti hoi hfi
      have HAB : Hid (Up.betw s t SS = [] ∨ ∃ b off, AB = some ⟨b, off, none⟩ ∧ b < w7.heap.size ∧ AtG Up.encC 3 w7 b off (Up.betw s t SS)) := by
        rcases HBV.out with ⟨_, h⟩ | ⟨b, off, cap, h, _, hb, hat, _⟩
        · exact .inl h
        · injection h with h1 h2 h3
          exact .inr ⟨b, off, h1, hb, hat⟩
      have HRW := Lib.hid (fun W (hW : Below w7.heap.size w7 W) => Up.upRows_toC s t (UR.out W (hc7.trans (hW.mono hc7.size))))
      have HSH : Hid (∀ x ∈ Up.betw s t SS, ∃ A n c, x.v = .slice A n c) := fun x hx => Up.shp_of (UR.out _ (Below.refl _ _)).1 x (List.mem_filter.mp hx).1
      clear HBV
      obtain ⟨i0, hi, hz0, hz1, hz2⟩ := info_parts Try.info44
      have HI := Lib.hid hi
      have HZ0 := Lib.hid hz0
      have HZ1 := Lib.hid hz1
      have HZ2 := Lib.hid hz2
      clear hi hz0 hz1 hz2
      have HTD := Lib.hid (Up.at_betw hst (L := SS))
      have HBL := Lib.hid (SM.out.betw s t)
      revert HAB HSH HRW hLB HTD HBL
      generalize Up.betw s t SS = B
      intro hLB HAB HRW HSH HTD HBL
      go_wp2_with fail
      go_loopw [21, 107] (fun a i wr => ∃ k : Nat, k ≤ B.length ∧ i = .int .i64 k ∧ Below w7.heap.size w7 wr ∧ Hid (OwnC wr w7.heap.size a (Ki ++ (B.take k).map Up.toC)) ∧ Hid (FreshIn wr w7.heap.size Ki)) (fun _ i _ => B.length - (intOf i).toNat)
      case atStart => exact ⟨0, Nat.zero_le _, rfl, hb8, by rw [List.take_zero, List.map_nil, List.append_nil]; exact OI.out, FI.out⟩
      case round =>
        obtain ⟨k, hk, rfl, hbk, HO, HF⟩ := hrel
        have hzk := hbk.size
        by_cases hlt : k < B.length
        · obtain ⟨b, off, rfl, hbl, hat⟩ := HAB.out.resolve_left (by rintro rfl; simp at hlt)
          have HX : Hid ((Ki ++ (B.take (k + 1)).map Up.toC) = (Ki ++ (B.take k).map Up.toC) ++ [Up.toC B[k]]) := by
            unfold Hid
            rw [List.take_succ_eq_append_getElem hlt, List.map_append, List.append_assoc]
            rfl
          have hS := HSH.out B[k] (List.getElem_mem hlt)
          obtain ⟨x, hx⟩ : ∃ x, B[k] = x := ⟨_, rfl⟩
          have e0 := hat k x (by rw [← hx]; exact List.getElem?_eq_getElem hlt) 0 _ rfl
          have e1 := hat k x (by rw [← hx]; exact List.getElem?_eq_getElem hlt) 1 _ rfl
          have e2 := hat k x (by rw [← hx]; exact List.getElem?_eq_getElem hlt) 2 _ rfl
          rw [Nat.add_zero] at e0
          have q0 := (hbk.cell (p := ⟨b, off + k * 3, none⟩) hbl).trans e0
          have q1 := (hbk.cell (p := ⟨b, off + k * 3 + 1, none⟩) hbl).trans e1
          have q2 := (hbk.cell (p := ⟨b, off + k * 3 + 2, none⟩) hbl).trans e2
          rw [hx] at HX hS
          obtain ⟨Ax, nx, cx, hxv⟩ := hS
          clear hat e0 e1 e2 hx
          obtain ⟨xv, ⟨xt, xr⟩, xn⟩ := x
          simp only at hxv
          subst hxv
          simp only at q0 q1 q2
          have hml : (Ki ++ (B.take k).map Up.toC).length + 1 ≤ 200 := by rw [List.length_append, List.length_map, List.length_take]; omega
          have hb7 := (hbk.alloc hzk (.cells #[.slice Ax nx cx, .int .i64 xt, .int .i64 xn] 48)).alloc (by simp; omega) (.cells #[.slice Ax nx cx, .int .i64 xn] 44)
          have hr7 := ((Below.refl wr.heap.size wr).alloc (Nat.le_refl _) (.cells #[.slice Ax nx cx, .int .i64 xt, .int .i64 xn] 48)).alloc (by simp) (.cells #[.slice Ax nx cx, .int .i64 xn] 44)
          have HO7 := Lib.hid (HO.out.below hr7)
          have HF7 := Lib.hid (HF.out.below hr7)
          have HV7 := Lib.hid (valC_at (wr.alloc (.cells #[.slice Ax nx cx, .int .i64 xt, .int .i64 xn] 48)) (wr.heap.size + 1) ⟨.slice Ax nx cx, xr, xn⟩ (by simp))
          go_wp2_with (at_builtin; refine wpList_append_g hkC (by decide) 22 44 i0 _ 32 Try.underlying22 HI.out HZ0.out HZ1.out HZ2.out rfl _ rfl (.tmp 111) (.tmp 117) rfl w7.heap.size _ _ (Ki ++ (B.take k).map Up.toC) [⟨.slice Ax nx cx, xr, xn⟩] rfl rfl HO7.out HV7.out (by intro x hx u hu; simp only [List.mem_singleton] at hx; subst hx; simp [encC] at hu; rcases hu with rfl | rfl <;> rfl) (by unfold maxLen; simp only [List.length_singleton]; omega) (by simp only [List.length_singleton]; omega) hb7.size ?_; intro v8 w8' ho8 hg8)
          have hb8' := hb7.trans (OwnG.grown HO7.out hb7.size hg8)
          go_roundw
          case rel => exact ⟨k + 1, by omega, by go_num, hb8', by rw [HX.out]; exact ho8, HF7.out.kept HO7.out hg8⟩
          case measure => simp [intOf]; omega
        · obtain rfl : k = B.length := by omega
          have HU := Lib.hid HO.out
          rw [List.take_length] at HU
          have hcp := hc7.trans (hbk.mono hc7.size)
          have hlt2 : ¬ B.length < B.length := by omega
          replace Du := Lib.hid (Du.out.below hbk)
          replace Ie := Lib.hid (Ie.out.below hbk)
          replace If := Lib.hid (If.out.below hbk)
          replace Ia := Lib.hid (Ia.out.below hbk)
          replace Ib := Lib.hid (Ib.out.below hbk)
          replace Ic := Lib.hid (Ic.out.below hbk)
          have Dd : Hid (CntIns wr u21 (Ki ++ B.map Up.toC)) := ins_app HU.out (HRI.out wr HF.out) (HRW.out wr hbk) (by rw [List.length_map]; omega)
          have HPD : Hid (∀ y ∈ plainC (Ki ++ B.map Up.toC), RowB y.1) := by
            intro y hy
            unfold plainC at hy
            obtain ⟨z, hz, rfl⟩ := List.mem_map.mp hy
            exact (Dd.out.2.2.1 z hz).1
          have HLD := Lib.hid (CntLe.app (CntLe.tid (SM.out.at s) (.inl rfl) Ti.out) HBL.out)
          have HND : Hid ((Ki ++ B.map Up.toC).length ≤ 120) := by unfold Hid; rw [List.length_append, List.length_map]; omega
          have HCD : Hid (∀ r, cntR (plainC (Ki ++ B.map Up.toC)) r = cntR (plainC (Up.atC SS t)) r) := fun r => by rw [plainC_append, cntR_append, Ti.out.cnt, Int.one_mul, ← HTD.out]
          rw [← plainC_append] at HLD
          clear HU HO HF HRI HRW HAB HSH HTD HBL OI FI Ti hlt
          revert Dd HPD HLD HND HCD
          generalize Ki ++ B.map Up.toC = D
          intro Dd HPD HLD HND HCD
          obtain ⟨wp, rfl⟩ : ∃ wp : World, wp = wr := ⟨_, rfl⟩
          go_wp2_with fail
          refine (tidy_ok _ D _ Dd.out (HLD.out.fit (by decide)).1).mono ?_
          rintro e w21 ⟨d, Kd, rfl, hb21, htd, hod, hfd, hld⟩
          rw [PL.out] at hld
          have Id := Lib.hid (tid_ins htd hod hfd (HPD.out) (by have := HND.out; omega))
          have Td := Lib.hid htd
          obtain ⟨Ad, cd, rfl⟩ := OwnC.shp hod
          clear htd hod hfd
          replace Du := Lib.hid (Du.out.below hb21)
          replace Ie := Lib.hid (Ie.out.below hb21)
          replace If := Lib.hid (If.out.below hb21)
          replace Ia := Lib.hid (Ia.out.below hb21)
          replace Ib := Lib.hid (Ib.out.below hb21)
          replace Ic := Lib.hid (Ic.out.below hb21)
          replace Dd := Lib.hid (Dd.out.below hb21)
          have hc21 := hcp.trans (hb21.mono hcp.size)
          go_wp2_with fail
          refine (Up.settle_ok _ Ke _ Ie.out (fun k => by rw [Te.out.cnt, Int.one_mul]; exact SM.out.fit k)).mono ?_
          rintro e w22 ⟨g, Kg, rfl, hb22, htg, hog, hfg, hlg⟩
          rw [PLU.out] at hlg
          have Ig := Lib.hid (Up.tid_ins htg hog hfg (Up.plain_rows (fun x hx => (Ie.out.2.2.1 x hx).1)) (by omega))
          have Tg := Lib.hid htg
          obtain ⟨Ag, cg, rfl⟩ := Up.OwnC.shp hog
          clear htg hog hfg
          replace Du := Lib.hid (Du.out.below hb22)
          replace Ie := Lib.hid (Ie.out.below hb22)
          replace If := Lib.hid (If.out.below hb22)
          replace Ia := Lib.hid (Ia.out.below hb22)
          replace Ib := Lib.hid (Ib.out.below hb22)
          replace Ic := Lib.hid (Ic.out.below hb22)
          replace Dd := Lib.hid (Dd.out.below hb22)
          replace Id := Lib.hid (Id.out.below hb22)
          have hc22 := hc21.trans (hb22.mono hc21.size)
          have HAF : Hid (Kf = [] ∨ ∃ b off, Af = some ⟨b, off, none⟩ ∧ b < w22.heap.size ∧ AtG Up.encC 3 w22 b off Kf) := by
            rcases If.out.1 with ⟨_, h⟩ | ⟨b, off, cap, h, _, hb, hat, _⟩
            · exact .inl h
            · injection h with h1 h2 h3
              exact .inr ⟨b, off, h1, hb, hat⟩
          have HSHF : Hid (∀ x ∈ Kf, ∃ A n c, x.v = .slice A n c) := Up.shp_of If.out.2.1
          have HLT : Hid (∀ (i : Nat) (hi : i < Kf.length), s ≤ Kf[i].l.1) := fun i hi => Up.later_times Tf.out i hi
          have HUP : Hid (∀ (i : Nat) (hi : i + 1 < Kf.length), Kf[i].l.1 ≤ Kf[i + 1].l.1) := fun i hi => Up.tid_times Tf.out i hi
          have hab : plainC Ka = plainC Kb := Ta.out.unique Tb.out fun r => by rw [HET.out]
          have hac : plainC Ka = plainC Kc := Ta.out.unique Tc.out fun r => by rw [HFT.out]
          have had : plainC Ka = plainC Kd := Ta.out.unique Td.out fun r => by rw [HCD.out]
          have hge : Up.plainC Kg = Up.plainC Ke := Tg.out.unique Te.out fun r => by rw [Te.out.cnt, Int.one_mul]
          have HK1 : Hid (∀ W, Below w22.heap.size w22 W → Calls Try.prog 15 #[.slice Aa Ka.length ca, .slice Ab Kb.length cb] W (BoolB true W)) := fun W hW => like_any _ _ Ka Kb W (Ia.out.below hW).1 (Ib.out.below hW).1 (Ia.out.below hW).2.1 (Ib.out.below hW).2.1 hab (by omega)
          have HK2 : Hid (∀ W, Below w22.heap.size w22 W → Calls Try.prog 15 #[.slice Aa Ka.length ca, .slice Ac Kc.length cc] W (BoolB true W)) := fun W hW => like_any _ _ Ka Kc W (Ia.out.below hW).1 (Ic.out.below hW).1 (Ia.out.below hW).2.1 (Ic.out.below hW).2.1 hac (by omega)
          have HK3 : Hid (∀ W, Below w22.heap.size w22 W → Calls Try.prog 15 #[.slice Aa Ka.length ca, .slice Ad Kd.length cd] W (BoolB true W)) := fun W hW => like_any _ _ Ka Kd W (Ia.out.below hW).1 (Id.out.below hW).1 (Ia.out.below hW).2.1 (Id.out.below hW).2.1 had (by omega)
          have HK4 := Lib.hid (fun W (hW : Below w22.heap.size w22 W) => Up.like_any _ _ Kg Ke W (Ig.out.below hW).1 (Ie.out.below hW).1 (Ig.out.below hW).2.1 (Ie.out.below hW).2.1 hge (by omega))
          have hfl : Kf.length ≤ 60 := by omega
          clear hab hac had hge Ta Tb Tc Td Te Tf Tg Ia Ib Ic Id Ie If Ig Dd Du HET HFT HCD HLD HPD HND PL PLU hla hlb hlc hld hlf hlg hli hLa hLs hLf hLB HRB
          go_wp2_with fail
          have bE := Blk.new w22 #[.int .i64 0, .int .i64 0, .int .i64 0, .int .i64 0, .int .i64 0, .int .i64 0, .int .i64 0, .int .i64 0] 24
          have HE : Hid (∀ k : Nat, k < 8 → (w22.alloc (.cells #[.int .i64 0, .int .i64 0, .int .i64 0, .int .i64 0, .int .i64 0, .int .i64 0, .int .i64 0, .int .i64 0] 24)).cell? ⟨w22.heap.size, k, none⟩ = some (.int .i64 0)) := by
            intro k hk
            rw [bE.cell k]
            match k, hk with
            | 0, _ => rfl
            | 1, _ => rfl
            | 2, _ => rfl
            | 3, _ => rfl
            | 4, _ => rfl
            | 5, _ => rfl
            | 6, _ => rfl
            | 7, _ => rfl
          clear bE
          go_loop [140] (fun i => ∃ k : Nat, k ≤ 8 ∧ i = .int .i64 k) (fun i => 8 - (intOf i).toNat)
          case atStart => exact ⟨0, by omega, rfl⟩
          case round =>
            obtain ⟨k, hk, rfl⟩ := hrel
            by_cases hlt : k < 8
            · have hce := HE.out k hlt
              go_wp2
              go_round
              case rel => exact ⟨k + 1, by omega, by go_num⟩
              case measure => simp [intOf]; omega
            · obtain rfl : k = 8 := by omega
              have hkk0 := (Below.refl w22.heap.size w22).alloc (Nat.le_refl _) (.cells #[.int .i64 0, .int .i64 0, .int .i64 0, .int .i64 0, .int .i64 0, .int .i64 0, .int .i64 0, .int .i64 0] 24)
              go_wp2_with fail
              go_loopw [149] (fun i wr => ∃ k : Nat, k ≤ Kf.length ∧ i = .int .i64 k ∧ Below w22.heap.size w22 wr) (fun i _ => Kf.length - (intOf i).toNat)
              case atStart => exact ⟨0, Nat.zero_le _, rfl, hkk0⟩
              case round =>
                obtain ⟨k, hk, rfl, hbr⟩ := hrel
                have hzr := hbr.size
                by_cases hlt : k < Kf.length
                · obtain ⟨ba, oa, rfl, hba, hat⟩ := HAF.out.resolve_left (by rintro rfl; simp at hlt)
                  have e0 := (hbr.cell (p := ⟨ba, oa + k * 3 + 0, none⟩) hba).trans (hat k _ (List.getElem?_eq_getElem hlt) 0 _ rfl)
                  have e1 := (hbr.cell (p := ⟨ba, oa + k * 3 + 1, none⟩) hba).trans (hat k _ (List.getElem?_eq_getElem hlt) 1 _ rfl)
                  have e2 := (hbr.cell (p := ⟨ba, oa + k * 3 + 2, none⟩) hba).trans (hat k _ (List.getElem?_eq_getElem hlt) 2 _ rfl)
                  rw [Nat.add_zero] at e0
                  have hsx := HLT.out k hlt
                  obtain ⟨Ax, nx, cx, hxv⟩ := HSHF.out _ (List.getElem_mem hlt)
                  rw [hxv] at e0
                  cases k with
                  | zero =>
                    simp only [Nat.zero_mul, Nat.add_zero] at e0 e1 e2
                    clear hat hxv
                    revert e0 e1 e2 hsx
                    generalize Kf[0].n = xn
                    generalize Kf[0].l.1 = xt
                    intro e0 e1 e2 hsx
                    have hsx' : decide (xt < s) = false := decide_eq_false (by omega)
                    have bX := Blk.new wr #[.slice Ax nx cx, .int .i64 xt, .int .i64 xn] 48
                    have bX1 := bX.cell 1
                    simp only [List.getElem?_toArray, List.getElem?_cons_zero, List.getElem?_cons_succ] at bX1
                    have k1 := fun n : Kept (wr.alloc (.cells #[.slice Ax nx cx, .int .i64 xt, .int .i64 xn] 48)) => n.cell bX1
                    go_wp2_with fail
                    refine wp_region_kept (by kernel_rfl) (by kernel_rfl) ?_
                    repeat (go_big_quiet_step (fail))
                    refine wpQuiet_nil ?_
                    intro wq hw'
                    obtain ⟨⟨wq2, hwq⟩, hw''⟩ := hw'
                    simp only at hw''
                    subst hw''
                    go_wp2
                    go_roundw
                    case rel => exact ⟨1, by omega, by go_num, (hbr.alloc hbr.size _).trans (hwq.mono (by have := hbr.size; simp; omega))⟩
                    case measure => simp [intOf]; omega
                  | succ i =>
                    have hlt1 : i < Kf.length := by omega
                    have g1 := (hbr.cell (p := ⟨ba, oa + i * 3 + 1, none⟩) hba).trans (hat i _ (List.getElem?_eq_getElem hlt1) 1 _ rfl)
                    have hup := HUP.out i hlt
                    clear hat hxv
                    revert e0 e1 e2 hsx g1 hup
                    generalize Kf[i + 1].n = xn
                    generalize Kf[i + 1].l.1 = xt
                    generalize Kf[i].l.1 = yt
                    intro e0 e1 e2 hsx g1 hup
                    have hsx' : decide (xt < s) = false := decide_eq_false (by omega)
                    have hup' : decide (xt < yt) = false := decide_eq_false (by omega)
                    have bX := Blk.new wr #[.slice Ax nx cx, .int .i64 xt, .int .i64 xn] 48
                    have bX1 := bX.cell 1
                    simp only [List.getElem?_toArray, List.getElem?_cons_zero, List.getElem?_cons_succ] at bX1
                    have gX := (World.cell?_alloc_lt wr (.cells #[.slice Ax nx cx, .int .i64 xt, .int .i64 xn] 48) ⟨ba, oa + i * 3 + 1, none⟩ (Nat.lt_of_lt_of_le hba hzr)).trans g1
                    have k1 := fun n : Kept (wr.alloc (.cells #[.slice Ax nx cx, .int .i64 xt, .int .i64 xn] 48)) => n.cell bX1
                    have k2 := fun n : Kept (wr.alloc (.cells #[.slice Ax nx cx, .int .i64 xt, .int .i64 xn] 48)) => n.cell gX
                    go_wp2_with fail
                    refine wp_region_kept (by kernel_rfl) (by kernel_rfl) ?_
                    repeat (go_big_quiet_step (fail))
                    refine wpQuiet_nil ?_
                    intro wq hw'
                    obtain ⟨⟨wq2, hwq⟩, hw''⟩ := hw'
                    simp only at hw''
                    subst hw''
                    go_wp2
                    go_roundw
                    case rel => exact ⟨i + 1 + 1, by omega, by go_num, (hbr.alloc hbr.size _).trans (hwq.mono (by have := hbr.size; simp; omega))⟩
                    case measure => simp [intOf]; omega
                · obtain rfl : k = Kf.length := by omega
                  go_wp2_with fail
                  refine (HK1.out _ hbr).mono ?_
                  rintro e wa ⟨rfl, hba⟩
                  have hwa := hbr.trans (hba.mono hbr.size)
                  go_wp2_with fail
                  refine (HK2.out _ hwa).mono ?_
                  rintro e wb ⟨rfl, hbb⟩
                  have hwb := hwa.trans (hbb.mono hwa.size)
                  go_wp2_with fail
                  refine (HK3.out _ hwb).mono ?_
                  rintro e wc ⟨rfl, hbc⟩
                  have hwc := hwb.trans (hbc.mono hwb.size)
                  go_wp2_with fail
                  refine (HK4.out _ hwc).mono ?_
                  rintro e wd ⟨rfl, hbd⟩
                  have hwd := hwc.trans (hbd.mono hwc.size)
                  have hle : (Ke.length : Int) ≤ (SS.length : Int) := by omega
                  go_wp2_with fail
                  go_ret
                  have hz1 := hc22.trans (hwd.mono hc22.size)
                  exact ⟨rfl, hcr.trans (hz1.mono hcr.size)⟩

end Go.Proofs.Ytciijaejldfcaaa
