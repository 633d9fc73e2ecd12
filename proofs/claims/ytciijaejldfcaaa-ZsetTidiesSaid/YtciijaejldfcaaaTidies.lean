/-
  The walk of the law ZsetTidies: it returns true of every list of counted rows.
-/
import Derived.Test.YtciijaejldfcaaaRefE
namespace Go.Proofs.Ytciijaejldfcaaa
open Go.RowKit

set_option maxRecDepth 100000 in
set_option maxHeartbeats 16000000 in
theorem tidies_core (v : Value) (X : List Cnt) (w : World) (hv : CntV w v X) (hr : RowsIn w X) (hbx : ∀ x ∈ X, RowB x.l ∧ -9223372036854775808 ≤ x.n ∧ x.n ≤ 9223372036854775807) :
    Calls Try.prog 3 #[v] w (BoolB true w) := by
  have HCUT := Lib.hid (cut_any v X w hv)
  have HIN : Hid (∀ v1 W, CntV w v1 (X.take 60) → Below w.heap.size w W → CntIns W v1 (X.take 60)) := fun v1 W h1 hW =>
    ⟨h1.below hW, fun x hx => (hr x (List.mem_of_mem_take hx)).below hW, fun x hx => hbx x (List.mem_of_mem_take hx), by rw [List.length_take]; omega⟩
  have hM : (X.take 60).length ≤ 60 := by rw [List.length_take]; omega
  clear hv hr hbx
  revert hM; revert HIN; revert HCUT
  generalize X.take 60 = M
  intro HCUT HIN hM
  have HPL : Hid ((plainC M).length = M.length) := by unfold Hid plainC; rw [List.length_map]
  go_enter Try.func3, Try.ntmps3
  go_wp2_with fail
  refine HCUT.out.mono ?_
  rintro e w0 ⟨v1, rfl, hv1, rfl⟩
  have HM := Lib.hid (HIN.out v1)
  have HV1 := Lib.hid hv1
  clear HIN HCUT hv1
  have hc0 : Below w.heap.size w w := Below.refl _ _
  go_wp2_with fail
  refine (lp_tidy v1 M w (HM.out w HV1.out hc0)).mono ?_
  rintro e w1 ⟨va, Ka, Ea, rfl, ha, ra, la, hb1, oa⟩
  go_wp2_with fail
  refine (lp_rtidy v1 M w1 (HM.out w1 HV1.out hb1) (by omega)).mono ?_
  rintro e w2 ⟨vb, Kb, Eb, rfl, hb, rb, lb, hb2, ob⟩
  have hc2 := hb1.trans (hb2.mono hb1.size)
  go_wp2_with fail
  refine (lp_neg v1 M w2 (HM.out w2 HV1.out hc2)).mono ?_
  rintro e w3 ⟨vc, Kc, Ec, rfl, hc, rc, lc, hb3, oc⟩
  have hc3 := hc2.trans (hb3.mono hc2.size)
  go_wp2_with fail
  refine (lp_rneg v1 M w3 (HM.out w3 HV1.out hc3) (by omega)).mono ?_
  rintro e w4 ⟨vd, Kd, Ed, rfl, hd, rd, ld, hb4, od⟩
  have hc4 := hc3.trans (hb4.mono hc3.size)
  obtain ⟨rfl, hab⟩ := oa.unique ob
  obtain ⟨rfl, hcd⟩ := oc.unique od
  have h34 := hb4
  have h24 := hb3.trans (hb4.mono hb3.size)
  have h14 := hb2.trans (h24.mono hb2.size)
  have HK1 : Hid (∀ W, Below w4.heap.size w4 W → Calls Try.prog 15 #[va, vb] W (BoolB true W)) := fun W hW => like_any _ _ Ka Kb W ((ha.below h14).below hW) ((hb.below h24).below hW) ((ra.below h14).below hW) ((rb.below h24).below hW) hab (by rw [HPL.out] at la; omega)
  have HK2 : Hid (∀ W, Below w4.heap.size w4 W → Calls Try.prog 15 #[vc, vd] W (BoolB true W)) := fun W hW => like_any _ _ Kc Kd W ((hc.below h34).below hW) (hd.below hW) ((rc.below h34).below hW) (rd.below hW) hcd (by rw [HPL.out] at lc; omega)
  clear ha ra la oa hb rb lb ob hc rc lc oc hd rd ld od hab hcd h34 h24 h14
  go_wp2_with fail
  refine (HK1.out w4 (Below.refl _ _)).mono ?_
  rintro e w5 ⟨rfl, hb5⟩
  go_wp2_with fail
  refine (HK2.out w5 hb5).mono ?_
  rintro e w6 ⟨rfl, hb6⟩
  have hc6 := hc4.trans ((hb5.trans (hb6.mono hb5.size)).mono hc4.size)
  clear HK1 HK2
  go_wp2_with fail
  refine (lp_pos v1 M w6 (HM.out w6 HV1.out hc6)).mono ?_
  rintro e w7 ⟨va', Ka', Ea', rfl, ha, ra, la, hb7, oa⟩
  have hc7 := hc6.trans (hb7.mono hc6.size)
  go_wp2_with fail
  refine (lp_rpos v1 M w7 (HM.out w7 HV1.out hc7) (by omega)).mono ?_
  rintro e w8 ⟨vb', Kb', Eb', rfl, hb, rb, lb, hb8, ob⟩
  have hc8 := hc7.trans (hb8.mono hc7.size)
  go_wp2_with fail
  refine (lp_dis v1 M w8 (HM.out w8 HV1.out hc8)).mono ?_
  rintro e w9 ⟨vc', Kc', Ec', rfl, hc, rc, lc, hb9, oc⟩
  have hc9 := hc8.trans (hb9.mono hc8.size)
  go_wp2_with fail
  refine (lp_rdis v1 M w9 (HM.out w9 HV1.out hc9) (by omega)).mono ?_
  rintro e w10 ⟨vd', Kd', Ed', rfl, hd, rd, ld, hb10, od⟩
  have hc10 := hc9.trans (hb10.mono hc9.size)
  obtain ⟨rfl, hab⟩ := oa.unique ob
  obtain ⟨rfl, hcd⟩ := oc.unique od
  have h24 := hb9.trans (hb10.mono hb9.size)
  have h14 := hb8.trans (h24.mono hb8.size)
  have HK1 : Hid (∀ W, Below w10.heap.size w10 W → Calls Try.prog 15 #[va', vb'] W (BoolB true W)) := fun W hW => like_any _ _ Ka' Kb' W ((ha.below h14).below hW) ((hb.below h24).below hW) ((ra.below h14).below hW) ((rb.below h24).below hW) hab (by rw [HPL.out] at la; omega)
  have HK2 : Hid (∀ W, Below w10.heap.size w10 W → Calls Try.prog 15 #[vc', vd'] W (BoolB true W)) := fun W hW => like_any _ _ Kc' Kd' W ((hc.below hb10).below hW) (hd.below hW) ((rc.below hb10).below hW) (rd.below hW) hcd (by rw [HPL.out] at lc; omega)
  clear ha ra la oa hb rb lb ob hc rc lc oc hd rd ld od hab hcd h24 h14
  go_wp2_with fail
  refine (HK1.out w10 (Below.refl _ _)).mono ?_
  rintro e w11 ⟨rfl, hb11⟩
  go_wp2_with fail
  refine (HK2.out w11 hb11).mono ?_
  rintro e w12 ⟨rfl, hb12⟩
  go_wp2_with fail
  go_ret
  exact ⟨rfl, hc10.trans ((hb11.trans (hb12.mono hb11.size)).mono hc10.size)⟩

end Go.Proofs.Ytciijaejldfcaaa
