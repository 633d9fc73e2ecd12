/-
  The walk of the law ZsetGroup: it returns true of every two lists of counted rows.
-/
import Derived.Test.YtciijaejldfcaaaGrpP
import Derived.Test.YtciijaejldfcaaaKept
import Derived.BigFrame
namespace Go.Proofs.Ytciijaejldfcaaa
open Go.RowKit

set_option maxRecDepth 100000 in
set_option maxHeartbeats 16000000 in
theorem group_core (vx vy : Value) (X Y : List Cnt) (w : World)
    (hvx : CntV w vx X) (hrx : RowsIn w X) (hbx : ∀ x ∈ X, RowB x.l) (hvy : CntV w vy Y) (hry : RowsIn w Y) (hby : ∀ x ∈ Y, RowB x.l) :
    Calls Try.prog 5 #[vx, vy] w (BoolB true w) := by
  obtain ⟨i0, hi, hz0, hz1, hz2⟩ := info_parts Try.info44
  have HI := Lib.hid hi
  have HZ0 := Lib.hid hz0
  have HZ1 := Lib.hid hz1
  have HZ2 := Lib.hid hz2
  have HSX : Hid (∀ W, Below w.heap.size w W → Calls Try.prog 28 #[vx] W (SmallPost X W)) := fun W hW => small_ins vx X W (hvx.below hW) (hrx.below hW) hbx
  have HSY : Hid (∀ W, Below w.heap.size w W → Calls Try.prog 28 #[vy] W (SmallPost Y W)) := fun W hW => small_ins vy Y W (hvy.below hW) (hry.below hW) hby
  have HPX : Hid (∀ y ∈ plainC (smalls X), RowB y.1) := by
    intro y hy
    unfold plainC at hy
    obtain ⟨z, hz, rfl⟩ := List.mem_map.mp hy
    obtain ⟨x, hx, _, e2, _⟩ := smalls_mem hz
    rw [e2]; exact hbx x hx
  have HPY : Hid (∀ y ∈ plainC (smalls Y), RowB y.1) := by
    intro y hy
    unfold plainC at hy
    obtain ⟨z, hz, rfl⟩ := List.mem_map.mp hy
    obtain ⟨x, hx, _, e2, _⟩ := smalls_mem hz
    rw [e2]; exact hby x hx
  have HRX : Hid (∀ W, Below w.heap.size w W → RowIns W (smalls X)) := fun W hW => rowIns_small (hrx.below hW) hbx
  have HRY : Hid (∀ W, Below w.heap.size w W → RowIns W (smalls Y)) := fun W hW => rowIns_small (hry.below hW) hby
  have HLX := Lib.hid (smalls_le X)
  have HLY := Lib.hid (smalls_le Y)
  have NX := smalls_len X
  have NY := smalls_len Y
  clear hi hz0 hz1 hz2 hvx hrx hbx hvy hry hby
  revert HSX HSY HPX HPY HRX HRY HLX HLY NX NY
  generalize hSX : smalls X = SX
  generalize hSY : smalls Y = SY
  intro HSX HSY HPX HPY HRX HRY HLX HLY NX NY
  unfold SmallPost at HSX HSY
  rw [hSX] at HSX
  rw [hSY] at HSY
  clear hSX hSY
  have plen : ∀ K : List Cnt, (plainC K).length = K.length := fun K => by unfold plainC; rw [List.length_map]
  have PL := Lib.hid plen
  clear plen
  go_enter Try.func5, Try.ntmps5
  have hc0 : Below w.heap.size w w := Below.refl _ _
  go_wp2_with fail
  refine (HSX.out _ hc0).mono ?_
  rintro e w1 ⟨s1, rfl, hos1, his1, hb1⟩
  have Is1 := Lib.hid his1
  have Os1 := Lib.hid hos1
  clear his1 hos1
  have hc1 := hc0.trans (hb1.mono hc0.size)
  go_wp2_with fail
  refine (tidy_ok _ _ _ Is1.out ((HLX.out.fit (by decide)).1)).mono ?_
  rintro e w2 ⟨a, Ka, rfl, hb2, hta, hoa, hfa, hla⟩
  rw [PL.out] at hla
  have Ia := Lib.hid (tid_ins hta hoa hfa (HPX.out) (by omega))
  have Ta := Lib.hid hta
  obtain ⟨Aa, ca, rfl⟩ := OwnC.shp hoa
  clear hta hoa hfa
  replace Is1 := Lib.hid (Is1.out.below hb2)
  have hc2 := hc1.trans (hb2.mono hc1.size)
  clear Is1 Os1
  have HLa := Lib.hid (HLX.out.tid (.inl rfl) Ta.out)
  have HPa : Hid (∀ y ∈ plainC Ka, RowB y.1) := fun y hy => by obtain ⟨z, hz, e⟩ := tid_rows Ta.out y hy; rw [← e]; exact HPX.out z hz
  go_wp2_with fail
  refine (HSY.out _ hc2).mono ?_
  rintro e w3 ⟨s2, rfl, hos2, his2, hb3⟩
  have Is2 := Lib.hid his2
  have Os2 := Lib.hid hos2
  clear his2 hos2
  replace Ia := Lib.hid (Ia.out.below hb3)
  have hc3 := hc2.trans (hb3.mono hc2.size)
  go_wp2_with fail
  refine (tidy_ok _ _ _ Is2.out ((HLY.out.fit (by decide)).1)).mono ?_
  rintro e w4 ⟨b, Kb, rfl, hb4, htb, hob, hfb, hlb⟩
  rw [PL.out] at hlb
  have Ib := Lib.hid (tid_ins htb hob hfb (HPY.out) (by omega))
  have Tb := Lib.hid htb
  obtain ⟨Ab, cb, rfl⟩ := OwnC.shp hob
  clear htb hob hfb
  replace Ia := Lib.hid (Ia.out.below hb4)
  replace Is2 := Lib.hid (Is2.out.below hb4)
  have hc4 := hc3.trans (hb4.mono hc3.size)
  clear Is2 Os2
  have HLb := Lib.hid (HLY.out.tid (.inl rfl) Tb.out)
  have HPb : Hid (∀ y ∈ plainC Kb, RowB y.1) := fun y hy => by obtain ⟨z, hz, e⟩ := tid_rows Tb.out y hy; rw [← e]; exact HPY.out z hz
  go_wp2_with fail
  have hca := hc4.alloc hc4.size (.cells #[] 44)
  refine (HSX.out _ hca).mono ?_
  rintro e w5 ⟨s3, rfl, -, hi3, hb5⟩
  have h1 := ((Below.refl w4.heap.size w4).alloc (Nat.le_refl _) (.cells #[] 44)).trans (hb5.mono (by simp))
  have OL := Lib.hid ((OwnG.lit0 (enc := encC) (k := 2) 44 w4 w4.heap.size (Nat.le_refl _)).below hb5)
  have I3 := Lib.hid hi3
  clear hi3
  go_wp2_with (at_builtin; refine wpList_append_g hkC (by decide) 22 44 i0 _ 32 Try.underlying22 HI.out HZ0.out HZ1.out HZ2.out rfl _ rfl (.tmp 38) (.tmp 40) rfl w4.heap.size _ _ [] SX rfl rfl OL.out I3.out.1 (RowsIn.one I3.out.2.1) (by unfold maxLen; simp only [List.length_nil]; omega) (by simp only [List.length_nil]; omega) h1.size ?_; intro v8 w6 ho8 hg8)
  have h2 := h1.trans (OwnG.grown OL.out h1.size hg8)
  have O8 : Hid (OwnC w6 w4.heap.size v8 SX) := ho8
  clear ho8 hg8 OL
  have hcb := hc4.trans (h2.mono hc4.size)
  refine (HSY.out _ hcb).mono ?_
  rintro e w7 ⟨s4, rfl, -, hi4, hb7⟩
  have h3 := h2.trans (hb7.mono h2.size)
  have O9 := Lib.hid (O8.out.below hb7)
  have I4 := Lib.hid hi4
  clear hi4 O8
  go_wp2_with (at_builtin; refine wpList_append_g hkC (by decide) 22 44 i0 _ 32 Try.underlying22 HI.out HZ0.out HZ1.out HZ2.out rfl _ rfl (.tmp 41) (.tmp 43) rfl w4.heap.size _ _ SX SY rfl rfl O9.out I4.out.1 (RowsIn.one I4.out.2.1) (by unfold maxLen; omega) (by omega) h3.size ?_; intro v9 w8 ho9 hg9)
  have h4 := h3.trans (OwnG.grown O9.out h3.size hg9)
  have hcd := hc4.trans (h4.mono hc4.size)
  have I5 := Lib.hid (ins_app ho9 (HRX.out _ hcd) (HRY.out _ hcd) (by omega))
  clear ho9 hg9 O9 I3 I4
  have HXY : Hid (CntLe (60000000 + 60000000) (plainC (SX ++ SY))) := by rw [plainC_append]; exact HLX.out.app HLY.out
  have HPXY : Hid (∀ y ∈ plainC (SX ++ SY), RowB y.1) := by
    intro y hy
    rw [plainC_append] at hy
    rcases List.mem_append.mp hy with h | h
    · exact HPX.out y h
    · exact HPY.out y h
  refine (tidy_ok _ _ _ I5.out ((HXY.out.fit (by decide)).1)).mono ?_
  rintro e w9 ⟨c, Kc, rfl, hb9, htc, hoc, hfc, hlc⟩
  rw [PL.out] at hlc
  have Ic := Lib.hid (tid_ins htc hoc hfc (HPXY.out) (by rw [List.length_append] at hlc; omega))
  have Tc := Lib.hid htc
  obtain ⟨Ac, cc, rfl⟩ := OwnC.shp hoc
  clear htc hoc hfc
  have hk9 := h4.trans (hb9.mono h4.size)
  replace Ia := Lib.hid (Ia.out.below hk9)
  replace Ib := Lib.hid (Ib.out.below hk9)
  have hc9 := hc4.trans (hk9.mono hc4.size)
  clear I5
  have hla60 : Ka.length ≤ 60 := by omega
  have hlb60 : Kb.length ≤ 60 := by omega
  have q1l := Lib.hid (OwnG.lit0 (enc := encC) (k := 2) 44 w9 w9.heap.size (Nat.le_refl _))
  have q11 := (Below.refl w9.heap.size w9).alloc (Nat.le_refl _) (.cells #[] 44)
  go_wp2_with (first | (at_builtin; refine wpList_append_g hkC (by decide) 22 44 i0 _ 32 Try.underlying22 HI.out HZ0.out HZ1.out HZ2.out rfl _ rfl (.tmp 49) (.tmp 50) rfl w9.heap.size _ _ [] Kb rfl rfl q1l.out (Ib.out.below q11).1 (RowsIn.one Ib.out.2.1) (by unfold maxLen; simp only [List.length_nil]; omega) (by simp only [List.length_nil]; omega) q11.size ?_; intro q1v w10 q1ho q1hg; have q12 := q11.trans (OwnG.grown q1l.out q11.size q1hg); have q1o : Hid (OwnC w10 w9.heap.size q1v Kb) := q1ho) | (at_builtin; refine wpList_append_g hkC (by decide) 22 44 i0 _ 32 Try.underlying22 HI.out HZ0.out HZ1.out HZ2.out rfl _ rfl (.tmp 51) (.tmp 52) rfl w9.heap.size _ _ Kb Ka rfl rfl q1o.out (Ia.out.below q12).1 (RowsIn.one Ia.out.2.1) (by unfold maxLen; omega) (by omega) q12.size ?_; intro q1u w11 q1ko q1kg))
  have q13 := q12.trans (OwnG.grown q1o.out q12.size q1kg)
  have q1i := Lib.hid (ins_app q1ko (Ib.out.below q13).rows (Ia.out.below q13).rows (by omega))
  clear q1ho q1hg q1ko q1kg q1o q1l
  have HBA : Hid (CntLe (60000000 + 60000000) (plainC (Kb ++ Ka))) := by rw [plainC_append]; exact HLb.out.app HLa.out
  have HPBA : Hid (∀ y ∈ plainC (Kb ++ Ka), RowB y.1) := by
    intro y hy
    rw [plainC_append] at hy
    rcases List.mem_append.mp hy with h | h
    · exact HPb.out y h
    · exact HPa.out y h
  refine (tidy_ok _ _ _ q1i.out ((HBA.out.fit (by decide)).1)).mono ?_
  rintro e w12 ⟨d, Kd, rfl, hb12, htd, hod, hfd, hld⟩
  rw [PL.out] at hld
  have Id := Lib.hid (tid_ins htd hod hfd (HPBA.out) (by rw [List.length_append] at hld; omega))
  have Td := Lib.hid htd
  obtain ⟨Ad, cd, rfl⟩ := OwnC.shp hod
  clear htd hod hfd
  have hk12 := q13.trans (hb12.mono q13.size)
  replace Ia := Lib.hid (Ia.out.below hk12)
  replace Ib := Lib.hid (Ib.out.below hk12)
  replace Ic := Lib.hid (Ic.out.below hk12)
  have hc12 := hc9.trans (hk12.mono hc9.size)
  clear q1i
  clear Ib
  go_wp2_with fail
  have hr12 := Below.refl w12.heap.size w12
  refine (tidy_ok _ _ _ Ia.out ((HLa.out.fit (by decide)).1)).mono ?_
  rintro e w13 ⟨e5, Ke, rfl, hb13, hte5, hoe5, hfe5, hle5⟩
  rw [PL.out] at hle5
  have Ie5 := Lib.hid (tid_ins hte5 hoe5 hfe5 (HPa.out) (by omega))
  have Te5 := Lib.hid hte5
  obtain ⟨Ae5, ce5, rfl⟩ := OwnC.shp hoe5
  clear hte5 hoe5 hfe5
  have hk13 := hr12.trans (hb13.mono hr12.size)
  replace Ia := Lib.hid (Ia.out.below hk13)
  replace Ic := Lib.hid (Ic.out.below hk13)
  replace Id := Lib.hid (Id.out.below hk13)
  have hc13 := hc12.trans (hk13.mono hc12.size)
  go_wp2_with fail
  refine (HSX.out _ hc13).mono ?_
  rintro e w14 ⟨s6, rfl, hos6, his6, hb14⟩
  have Is6 := Lib.hid his6
  have Os6 := Lib.hid hos6
  clear his6 hos6
  replace Ia := Lib.hid (Ia.out.below hb14)
  replace Ic := Lib.hid (Ic.out.below hb14)
  replace Id := Lib.hid (Id.out.below hb14)
  replace Ie5 := Lib.hid (Ie5.out.below hb14)
  have hc14 := hc13.trans (hb14.mono hc13.size)
  go_wp2_with fail
  have hr14 := Below.refl w14.heap.size w14
  refine (negate_ok _ _ _ Is6.out ((HLX.out.fit (by decide)).2)).mono ?_
  rintro e w15 ⟨m, Km, rfl, hb15, htm, hom, hfm, hlm⟩
  rw [PL.out] at hlm
  have Im := Lib.hid (tid_ins htm hom hfm (HPX.out) (by omega))
  have Tm := Lib.hid htm
  obtain ⟨Am, cm, rfl⟩ := OwnC.shp hom
  clear htm hom hfm
  have hk15 := hr14.trans (hb15.mono hr14.size)
  replace Ia := Lib.hid (Ia.out.below hk15)
  replace Ic := Lib.hid (Ic.out.below hk15)
  replace Id := Lib.hid (Id.out.below hk15)
  replace Ie5 := Lib.hid (Ie5.out.below hk15)
  replace Is6 := Lib.hid (Is6.out.below hk15)
  have hc15 := hc14.trans (hk15.mono hc14.size)
  clear Is6 Os6
  have HLm := Lib.hid (HLX.out.tid (.inr rfl) Tm.out)
  have HPm : Hid (∀ y ∈ plainC Km, RowB y.1) := fun y hy => by obtain ⟨z, hz, e⟩ := tid_rows Tm.out y hy; rw [← e]; exact HPX.out z hz
  have hlm60 : Km.length ≤ 60 := by omega
  go_wp2_with fail
  have hr15 := Below.refl w15.heap.size w15
  refine (negate_ok _ _ _ Im.out ((HLm.out.fit (by decide)).2)).mono ?_
  rintro e w16 ⟨t, Kt, rfl, hb16, htt, hot, hft, hlt⟩
  rw [PL.out] at hlt
  have It := Lib.hid (tid_ins htt hot hft (HPm.out) (by omega))
  have Tt := Lib.hid htt
  obtain ⟨At, ct, rfl⟩ := OwnC.shp hot
  clear htt hot hft
  have hk16 := hr15.trans (hb16.mono hr15.size)
  replace Ia := Lib.hid (Ia.out.below hk16)
  replace Ic := Lib.hid (Ic.out.below hk16)
  replace Id := Lib.hid (Id.out.below hk16)
  replace Ie5 := Lib.hid (Ie5.out.below hk16)
  replace Im := Lib.hid (Im.out.below hk16)
  have hc16 := hc15.trans (hk16.mono hc15.size)
  have q2l := Lib.hid (OwnG.lit0 (enc := encC) (k := 2) 44 w16 w16.heap.size (Nat.le_refl _))
  have q21 := (Below.refl w16.heap.size w16).alloc (Nat.le_refl _) (.cells #[] 44)
  go_wp2_with (first | (at_builtin; refine wpList_append_g hkC (by decide) 22 44 i0 _ 32 Try.underlying22 HI.out HZ0.out HZ1.out HZ2.out rfl _ rfl (.tmp 74) (.tmp 75) rfl w16.heap.size _ _ [] Km rfl rfl q2l.out (Im.out.below q21).1 (RowsIn.one Im.out.2.1) (by unfold maxLen; simp only [List.length_nil]; omega) (by simp only [List.length_nil]; omega) q21.size ?_; intro q2v w17 q2ho q2hg; have q22 := q21.trans (OwnG.grown q2l.out q21.size q2hg); have q2o : Hid (OwnC w17 w16.heap.size q2v Km) := q2ho) | (at_builtin; refine wpList_append_g hkC (by decide) 22 44 i0 _ 32 Try.underlying22 HI.out HZ0.out HZ1.out HZ2.out rfl _ rfl (.tmp 76) (.tmp 77) rfl w16.heap.size _ _ Km Ka rfl rfl q2o.out (Ia.out.below q22).1 (RowsIn.one Ia.out.2.1) (by unfold maxLen; omega) (by omega) q22.size ?_; intro q2u w18 q2ko q2kg))
  have q23 := q22.trans (OwnG.grown q2o.out q22.size q2kg)
  have q2i := Lib.hid (ins_app q2ko (Im.out.below q23).rows (Ia.out.below q23).rows (by omega))
  clear q2ho q2hg q2ko q2kg q2o q2l
  have HMA : Hid (CntLe (60000000 + 60000000) (plainC (Km ++ Ka))) := by rw [plainC_append]; exact HLm.out.app HLa.out
  have HPMA : Hid (∀ y ∈ plainC (Km ++ Ka), RowB y.1) := by
    intro y hy
    rw [plainC_append] at hy
    rcases List.mem_append.mp hy with h | h
    · exact HPm.out y h
    · exact HPa.out y h
  refine (tidy_ok _ _ _ q2i.out ((HMA.out.fit (by decide)).1)).mono ?_
  rintro e w19 ⟨n, Kn, rfl, hb19, htn, hon, hfn, hln⟩
  rw [PL.out] at hln
  have In := Lib.hid (tid_ins htn hon hfn (HPMA.out) (by rw [List.length_append] at hln; omega))
  have Tn := Lib.hid htn
  obtain ⟨An, cn, rfl⟩ := OwnC.shp hon
  clear htn hon hfn
  have hk19 := q23.trans (hb19.mono q23.size)
  replace Ia := Lib.hid (Ia.out.below hk19)
  replace Ic := Lib.hid (Ic.out.below hk19)
  replace Id := Lib.hid (Id.out.below hk19)
  replace Ie5 := Lib.hid (Ie5.out.below hk19)
  replace Im := Lib.hid (Im.out.below hk19)
  replace It := Lib.hid (It.out.below hk19)
  have hc19 := hc16.trans (hk19.mono hc16.size)
  clear q2i
  have hcd' : plainC Kc = plainC Kd := Tc.out.unique Td.out fun r => by
    have e1 := Ta.out.cnt r
    have e2 := Tb.out.cnt r
    rw [plainC_append, plainC_append, cntR_append, cntR_append]
    omega
  have hea' : plainC Ke = plainC Ka := Te5.out.unique Ta.out fun r => by
    have e1 := Ta.out.cnt r
    omega
  have hta' : plainC Kt = plainC Ka := Tt.out.unique Ta.out fun r => by
    have e1 := Tm.out.cnt r
    omega
  have hn' : plainC Kn = [] := Tn.out.unique (Tid.nil 1) fun r => by
    have e1 := Ta.out.cnt r
    have e2 := Tm.out.cnt r
    rw [plainC_append, cntR_append]
    simp only [cntR]
    omega
  have hn0 : Kn.length = 0 := by
    have := congrArg List.length hn'
    rw [PL.out] at this
    exact this
  have hm0 : Km.length = Ka.length := by
    have := congrArg List.length (Tm.out.unique (tid_neg Ta.out (HLX.out.fit (by decide)).2) fun r => rfl)
    rw [PL.out, List.length_map, PL.out] at this
    exact this
  have HASC := Lib.hid Ta.out.asc
  have HNZ : Hid (∀ x ∈ Ka, x.n ≠ 0) := fun x hx => (Ta.out.nz (x.l, x.n) (List.mem_map.mpr ⟨x, hx, rfl⟩)).1
  have hlc' : Kc.length ≤ 1000000 := by rw [List.length_append] at hlc; omega
  have hle' : Ke.length ≤ 1000000 := by omega
  have hlt' : Kt.length ≤ 1000000 := by omega
  have HK1 : Hid (∀ W, Below w19.heap.size w19 W → Calls Try.prog 15 #[.slice Ac Kc.length cc, .slice Ad Kd.length cd] W (BoolB true W)) := fun W hW => like_any _ _ Kc Kd W (Ic.out.below hW).1 (Id.out.below hW).1 (Ic.out.below hW).2.1 (Id.out.below hW).2.1 hcd' hlc'
  have HK2 : Hid (∀ W, Below w19.heap.size w19 W → Calls Try.prog 15 #[.slice Ae5 Ke.length ce5, .slice Aa Ka.length ca] W (BoolB true W)) := fun W hW => like_any _ _ Ke Ka W (Ie5.out.below hW).1 (Ia.out.below hW).1 (Ie5.out.below hW).2.1 (Ia.out.below hW).2.1 hea' hle'
  have HK3 : Hid (∀ W, Below w19.heap.size w19 W → Calls Try.prog 15 #[.slice At Kt.length ct, .slice Aa Ka.length ca] W (BoolB true W)) := fun W hW => like_any _ _ Kt Ka W (It.out.below hW).1 (Ia.out.below hW).1 (It.out.below hW).2.1 (Ia.out.below hW).2.1 hta' hlt'
  have HA : Hid (Ka = [] ∨ ∃ b off, Aa = some ⟨b, off, none⟩ ∧ b < w19.heap.size ∧ AtG encC 2 w19 b off Ka) := by
    rcases Ia.out.1 with ⟨_, h⟩ | ⟨b, off, cap, h, _, hb, hat, _⟩
    · exact .inl h
    · injection h with h1 h2 h3
      exact .inr ⟨b, off, h1, hb, hat⟩
  have HRA : Hid (∀ W, Below w19.heap.size w19 W → RowsIn W Ka) := fun W hW => (Ia.out.below hW).2.1
  clear hcd' hea' hta' hn' hlc' hle' hlt' hlc hle5 hlt hln hld hlm hla hlb Ta Tb Tc Td Te5 Tm Tt Tn HLX HLY HLa HLb HLm HPX HPY HPa HPb HPm HSX HSY HRX HRY HXY HPXY HBA HPBA HMA HPMA Ia Ic Id Ie5 Im It In PL HI HZ0 HZ1 HZ2
  go_wp2_with fail
  clear hn0 hm0
  have bE := Blk.new w19 #[.int .i64 0, .int .i64 0, .int .i64 0, .int .i64 0, .int .i64 0, .int .i64 0, .int .i64 0, .int .i64 0] 24
  have HE : Hid (∀ k : Nat, k < 8 → (w19.alloc (.cells #[.int .i64 0, .int .i64 0, .int .i64 0, .int .i64 0, .int .i64 0, .int .i64 0, .int .i64 0, .int .i64 0] 24)).cell? ⟨w19.heap.size, k, none⟩ = some (.int .i64 0)) := by
    intro k hk
    rw [bE.cell k]
    match k, hk with
    | 0, _ => rfl
    | 1, _ => rfl
    | 2, _ => rfl
    | 3, _ => rfl
    | 4, _ => rfl
    | 5, _ => rfl
    | 6, _ => rfl
    | 7, _ => rfl
  clear bE
  go_loop [92] (fun i => ∃ k : Nat, k ≤ 8 ∧ i = .int .i64 k) (fun i => 8 - (intOf i).toNat)
  case atStart => exact ⟨0, by omega, rfl⟩
  case round =>
    obtain ⟨k, hk, rfl⟩ := hrel
    by_cases hlt : k < 8
    · have hce := HE.out k hlt
      go_wp2
      go_round
      case rel => exact ⟨k + 1, by omega, by go_num⟩
      case measure => simp [intOf]; omega
    · obtain rfl : k = 8 := by omega
      go_wp2_with (go_at_call 29; refine (known_any _).mono ?_; rintro e wk ⟨rfl, hbk⟩)
      have hkk := ((Below.refl w19.heap.size w19).alloc (Nat.le_refl _) (.cells #[.int .i64 0, .int .i64 0, .int .i64 0, .int .i64 0, .int .i64 0, .int .i64 0, .int .i64 0, .int .i64 0] 24)).trans (hbk.mono (by simp))
      go_loopw [103] (fun i wr => ∃ k : Nat, k ≤ Ka.length ∧ i = .int .i64 k ∧ Below wk.heap.size wk wr) (fun i _ => Ka.length - (intOf i).toNat)
      case atStart => exact ⟨0, Nat.zero_le _, rfl, Below.refl _ _⟩
      case round =>
        obtain ⟨k, hk, rfl, hbr⟩ := hrel
        have hwr := hkk.trans (hbr.mono hkk.size)
        have hzr := hwr.size
        by_cases hlt : k < Ka.length
        · obtain ⟨ba, oa, rfl, hba, hat⟩ := HA.out.resolve_left (by rintro rfl; simp at hlt)
          have e0 := (hwr.cell (p := ⟨ba, oa + k * 2 + 0, none⟩) hba).trans (hat k _ (List.getElem?_eq_getElem hlt) 0 _ rfl)
          have e1 := (hwr.cell (p := ⟨ba, oa + k * 2 + 1, none⟩) hba).trans (hat k _ (List.getElem?_eq_getElem hlt) 1 _ rfl)
          rw [Nat.add_zero] at e0
          have hnz : (Ka[k].n == 0) = false := by simpa using HNZ.out _ (List.getElem_mem hlt)
          obtain ⟨Ax, nx, cx, hxv⟩ : ∃ A n c, Ka[k].v = .slice A n c := by
            rcases HRA.out _ (Below.refl _ _) _ (List.getElem_mem hlt) with ⟨_, _, h, _⟩ | ⟨b, o, c, h, _⟩
            · exact ⟨_, _, _, h⟩
            · exact ⟨_, _, _, h⟩
          cases k with
          | zero =>
            rw [hxv] at e0
            simp only [Nat.zero_mul, Nat.add_zero] at e0 e1
            clear hat hxv
            revert e0 e1 hnz
            generalize Ka[0].n = xn
            intro e0 e1 hnz
            have bX := Blk.new wr #[.slice Ax nx cx, .int .i64 xn] 44
            have bX1 := bX.cell 1
            simp only [List.getElem?_toArray, List.getElem?_cons_zero, List.getElem?_cons_succ] at bX1
            have k1 := fun n : Kept (wr.alloc (.cells #[.slice Ax nx cx, .int .i64 xn] 44)) => n.cell bX1
            go_wp2_with fail
            refine wp_region_kept (by kernel_rfl) (by kernel_rfl) ?_
            repeat (go_big_quiet_step (fail))
            refine wpQuiet_nil ?_
            intro wq hw'
            obtain ⟨⟨wq2, hwq⟩, hw''⟩ := hw'
            simp only at hw''
            subst hw''
            go_wp2
            go_roundw
            case rel => exact ⟨1, by omega, by go_num, (hbr.alloc hbr.size _).trans (hwq.mono (by have := hbr.size; simp; omega))⟩
            case measure => simp [intOf]; omega
          | succ i =>
            have hlt1 : i < Ka.length := by omega
            have g0 := (hwr.cell (p := ⟨ba, oa + i * 2 + 0, none⟩) hba).trans (hat i _ (List.getElem?_eq_getElem hlt1) 0 _ rfl)
            rw [Nat.add_zero] at g0
            have hasc : cmpR Ka[i].l Ka[i + 1].l = -1 := by
              have h := HASC.out
              unfold plainC at h
              rw [List.pairwise_map, List.pairwise_iff_getElem] at h
              have h1 : cmpR Ka[i].l Ka[i + 1].l < 0 := h i (i + 1) hlt1 hlt (by omega)
              have h2 := cmpR_range Ka[i].l Ka[i + 1].l
              omega
            have HCM : Hid (∀ W, Below w19.heap.size w19 W → Calls Try.prog 30 #[Ka[i].v, Ka[i + 1].v] W (IntPost (-1) W)) := fun W hW => by
              have h := refCompare_row Ka[i].v Ka[i + 1].v Ka[i].l Ka[i + 1].l W (HRA.out W hW _ (List.getElem_mem hlt1)) (HRA.out W hW _ (List.getElem_mem hlt))
              rwa [hasc] at h
            rw [hxv] at e0 HCM
            clear hat hxv hasc
            revert e0 e1 hnz g0 HCM
            generalize Ka[i + 1].n = xn
            generalize Ka[i].v = yv
            intro e0 e1 hnz g0 HCM
            have bX := Blk.new wr #[.slice Ax nx cx, .int .i64 xn] 44
            have bX0 := bX.cell 0
            have bX1 := bX.cell 1
            simp only [List.getElem?_toArray, List.getElem?_cons_zero, List.getElem?_cons_succ] at bX0 bX1
            have hwa := hwr.alloc hzr (.cells #[.slice Ax nx cx, .int .i64 xn] 44)
            have gX := (World.cell?_alloc_lt wr (.cells #[.slice Ax nx cx, .int .i64 xn] 44) ⟨ba, oa + i * 2, none⟩ (Nat.lt_of_lt_of_le hba hzr)).trans g0
            have k0 := fun n : Kept (wr.alloc (.cells #[.slice Ax nx cx, .int .i64 xn] 44)) => n.cell bX0
            have k1 := fun n : Kept (wr.alloc (.cells #[.slice Ax nx cx, .int .i64 xn] 44)) => n.cell bX1
            have k2 := fun n : Kept (wr.alloc (.cells #[.slice Ax nx cx, .int .i64 xn] 44)) => n.cell gX
            have HC2 : Hid (∀ n : Kept (wr.alloc (.cells #[.slice Ax nx cx, .int .i64 xn] 44)), Calls Try.prog 30 #[yv, .slice Ax nx cx] n.w fun e w' => e = .returned (.int .i64 (-1)) ∧ Below n.w.heap.size n.w w') := fun n => (HCM.out n.w (hwa.trans (n.h.mono hwa.size))).mono fun _ _ h => ⟨h.1, h.2.toBelow⟩
            go_wp2_with fail
            refine wp_region_kept (by kernel_rfl) (by kernel_rfl) ?_
            repeat (go_big_quiet_step ((go_at_call 30; exact Calls.kept (HC2.out _))))
            refine wpQuiet_nil ?_
            intro wq hw'
            obtain ⟨⟨wq2, hwq⟩, hw''⟩ := hw'
            simp only at hw''
            subst hw''
            go_wp2
            go_roundw
            case rel => exact ⟨i + 1 + 1, by omega, by go_num, (hbr.alloc hbr.size _).trans (hwq.mono (by have := hbr.size; simp; omega))⟩
            case measure => simp [intOf]; omega
        · obtain rfl : k = Ka.length := by omega
          go_wp2_with fail
          refine (HK1.out _ hwr).mono ?_
          rintro e wa ⟨rfl, hba⟩
          have hwa := hwr.trans (hba.mono hwr.size)
          go_wp2_with fail
          refine (HK2.out _ hwa).mono ?_
          rintro e wb ⟨rfl, hbb⟩
          have hwb := hwa.trans (hbb.mono hwa.size)
          go_wp2_with fail
          refine (HK3.out _ hwb).mono ?_
          rintro e wc ⟨rfl, hbc⟩
          have hwc := hwb.trans (hbc.mono hwb.size)
          go_wp2
          go_ret
          exact ⟨rfl, hc19.trans (hwc.mono hc19.size)⟩

end Go.Proofs.Ytciijaejldfcaaa
