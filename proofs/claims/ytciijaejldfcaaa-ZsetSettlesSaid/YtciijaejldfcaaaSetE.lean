/-
  The walk of the law ZsetSettles: it returns true of every list of updates and every time.
-/
import Derived.Test.YtciijaejldfcaaaSetR
import Derived.Test.YtciijaejldfcaaaSetA
namespace Go.Proofs.Ytciijaejldfcaaa.Up
open Go.RowKit

/-- What such a call tells: ErrDiff and nothing, or what is settled. -/
def Out (P : List CRow) (E : Int) (T : List CRow) : Prop :=
  (E = 30 ∧ T = [] ∧ ∃ r, fitsB (1 * cntR P r) = false) ∨ (E = 0 ∧ Tid 1 P T)
theorem tid_fits {sg : Int} {P T : List CRow} (h : Tid sg P T) (r : KeyU) : fitsB (sg * cntR P r) = true := by
  rw [← h.cnt]
  rcases Int.lt_trichotomy (cntR T r) 0 with q | q | q
  · obtain ⟨x, hx, e⟩ := cntR_some T r (by omega)
    rw [← cmpK_eq _ _ e, asc_cnt T h.asc x hx]
    exact (h.nz x hx).2
  · rw [q]; rfl
  · obtain ⟨x, hx, e⟩ := cntR_some T r (by omega)
    rw [← cmpK_eq _ _ e, asc_cnt T h.asc x hx]
    exact (h.nz x hx).2
theorem Out.unique {P : List CRow} {E E' : Int} {T T' : List CRow} (h : Out P E T) (k : Out P E' T') : E = E' ∧ T = T' := by
  rcases h with ⟨h1, h2, r, h3⟩ | ⟨h1, h2⟩
  · rcases k with ⟨k1, k2, _⟩ | ⟨k1, k2⟩
    · exact ⟨by rw [h1, k1], by rw [h2, k2]⟩
    · rw [tid_fits k2 r] at h3; cases h3
  · rcases k with ⟨k1, k2, r, k3⟩ | ⟨k1, k2⟩
    · rw [tid_fits h2 r] at k3; cases k3
    · exact ⟨by rw [h1, k1], h2.unique k2 fun r => rfl⟩

/-- Such a call's ending. -/
def LPost (P : List CRow) (w : World) (e : Ending) (w' : World) : Prop :=
  ∃ v' K E, e = .returned (.tuple #[v', .int .i64 E]) ∧ CntV w' v' K ∧ RowsIn w' K ∧ K.length ≤ 1000000 ∧ Below w.heap.size w w' ∧ Out P E (plainC K)
theorem TidPost.l {P : List CRow} {w : World} {e : Ending} {w' : World} (h : TidPost 1 P w e w') (hP : ∀ y ∈ P, RowB y.1.2) (hn : P.length ≤ 1000000) : LPost P w e w' := by
  obtain ⟨hb, ⟨hb1, rfl⟩ | ⟨v', K, rfl, ht, ho, hf, hl⟩⟩ := h
  · exact ⟨_, [], 30, rfl, .inl ⟨rfl, rfl⟩, by intro x hx; simp at hx, Nat.zero_le _, hb, .inl ⟨rfl, rfl, hb1⟩⟩
  · have hi := tid_ins ht ho hf hP (Nat.le_trans hl hn)
    exact ⟨_, K, 0, rfl, hi.1, hi.2.1, Nat.le_trans hl hn, hb, .inr ⟨rfl, ht⟩⟩
theorem RefPost.l {P : List CRow} {w : World} {e : Ending} {w' : World} (h : RefPost P w e w') : LPost P w e w' := by
  obtain ⟨hb, ⟨hb1, rfl⟩ | ⟨v', K, rfl, ht, hv, hr, hl⟩⟩ := h
  · exact ⟨_, [], 30, rfl, .inl ⟨rfl, rfl⟩, by intro x hx; simp at hx, Nat.zero_le _, hb, .inl ⟨rfl, rfl, hb1⟩⟩
  · exact ⟨_, K, 0, rfl, hv, hr, hl, hb, .inr ⟨rfl, ht⟩⟩

theorem plainU_len (L : List Cnt) : (plainC L).length = L.length := by unfold plainC; rw [List.length_map]
theorem lp_settle (v : Value) (L : List Cnt) (w : World) (h : UpdIns w v L) : Calls Try.prog 21 #[v] w (LPost (plainC L) w) :=
  (settle_any v L w h).mono fun _ _ k => k.l (plain_rows fun x hx => (h.2.2.1 x hx).1) (by rw [plainU_len]; exact h.2.2.2)
theorem lp_rsettle (v : Value) (L : List Cnt) (w : World) (h : UpdIns w v L) (hn : L.length ≤ 1000) : Calls Try.prog 22 #[v] w (LPost (plainC L) w) :=
  (refSettle_any v L w h hn).mono fun _ _ k => k.l
theorem lp_later (v : Value) (L : List Cnt) (t : Int) (w : World) (h : UpdIns w v L) : Calls Try.prog 25 #[v, .int .i64 t] w (LPost (plainC (L.map (laterU t))) w) :=
  (later_any v L t w h).mono fun _ _ k => k.l (plain_rows fun x hx => by
    obtain ⟨y, hy, rfl⟩ := List.mem_map.mp hx
    exact (h.2.2.1 y hy).1) (by rw [plainU_len, List.length_map]; exact h.2.2.2)
theorem lp_rlater (v : Value) (L : List Cnt) (t : Int) (w : World) (h : UpdIns w v L) (hn : L.length ≤ 1000) : Calls Try.prog 26 #[v, .int .i64 t] w (LPost (plainC (L.map (laterU t))) w) :=
  (refLater_any v L t w h hn).mono fun _ _ k => k.l
theorem lp_at (v : Value) (L : List Cnt) (t : Int) (w : World) (h : UpdIns w v L) : Calls Try.prog 23 #[v, .int .i64 t] w (Ytciijaejldfcaaa.LPost 1 (Ytciijaejldfcaaa.plainC (atC L t)) id w) :=
  (at_any v L t w h).mono fun _ _ k => k.l (plain_at (fun x hx => (h.2.2.1 x hx).1) t)
theorem lp_rat (v : Value) (L : List Cnt) (t : Int) (w : World) (h : UpdIns w v L) (hn : L.length ≤ 1000) : Calls Try.prog 24 #[v, .int .i64 t] w (Ytciijaejldfcaaa.LPost 1 (Ytciijaejldfcaaa.plainC (atC L t)) id w) :=
  (refAt_any v L t w h hn).mono fun _ _ k => k.l
theorem plainA_len (L : List Cnt) (t : Int) : (Ytciijaejldfcaaa.plainC (atC L t)).length ≤ L.length := by
  unfold Ytciijaejldfcaaa.plainC
  rw [List.length_map]
  exact atC_len L t

set_option maxRecDepth 100000 in
set_option maxHeartbeats 16000000 in
theorem settles_core (v : Value) (X : List Cnt) (t : Int) (w : World) (hv : CntV w v X) (hr : RowsIn w X) (hbx : ∀ x ∈ X, RowB x.l.2 ∧ -9223372036854775808 ≤ x.n ∧ x.n ≤ 9223372036854775807) :
    Calls Try.prog 4 #[v, .int .i64 t] w (BoolB true w) := by
  have HCUT := Lib.hid (cut_any v X w hv)
  have HIN : Hid (∀ v1 W, CntV w v1 (X.take 60) → Below w.heap.size w W → UpdIns W v1 (X.take 60)) := fun v1 W h1 hW =>
    ⟨h1.below hW, fun x hx => (hr x (List.mem_of_mem_take hx)).below hW, fun x hx => hbx x (List.mem_of_mem_take hx), by rw [List.length_take]; omega⟩
  have hM : (X.take 60).length ≤ 60 := by rw [List.length_take]; omega
  clear hv hr hbx
  revert hM; revert HIN; revert HCUT
  generalize X.take 60 = M
  intro HCUT HIN hM
  have HPA := Lib.hid (plainA_len M t)
  go_enter Try.func4, Try.ntmps4
  go_wp2_with fail
  refine HCUT.out.mono ?_
  rintro e w0 ⟨v1, rfl, hv1, rfl⟩
  have HM := Lib.hid (HIN.out v1)
  have HV1 := Lib.hid hv1
  clear HIN HCUT hv1
  have hc0 : Below w.heap.size w w := Below.refl _ _
  go_wp2_with fail
  refine (lp_settle v1 M w (HM.out w HV1.out hc0)).mono ?_
  rintro e w1 ⟨va, Ka, Ea, rfl, ha, ra, la, hb1, oa⟩
  go_wp2_with fail
  refine (lp_rsettle v1 M w1 (HM.out w1 HV1.out hb1) (by omega)).mono ?_
  rintro e w2 ⟨vb, Kb, Eb, rfl, hb, rb, lb, hb2, ob⟩
  have hc2 := hb1.trans (hb2.mono hb1.size)
  go_wp2_with fail
  refine (lp_at v1 M t w2 (HM.out w2 HV1.out hc2)).mono ?_
  rintro e w3 ⟨vc, Kc, Ec, rfl, hc, rc, lc, hb3, oc⟩
  have hc3 := hc2.trans (hb3.mono hc2.size)
  go_wp2_with fail
  refine (lp_rat v1 M t w3 (HM.out w3 HV1.out hc3) (by omega)).mono ?_
  rintro e w4 ⟨vd, Kd, Ed, rfl, hd, rd, ld, hb4, od⟩
  have hc4 := hc3.trans (hb4.mono hc3.size)
  go_wp2_with fail
  refine (lp_later v1 M t w4 (HM.out w4 HV1.out hc4)).mono ?_
  rintro e w5 ⟨vx, Kx, Ex, rfl, hx, rx, lx, hb5, ox⟩
  have hc5 := hc4.trans (hb5.mono hc4.size)
  go_wp2_with fail
  refine (lp_rlater v1 M t w5 (HM.out w5 HV1.out hc5) (by omega)).mono ?_
  rintro e w6 ⟨vy, Ky, Ey, rfl, hy, ry, ly, hb6, oy⟩
  have hc6 := hc5.trans (hb6.mono hc5.size)
  obtain ⟨rfl, hab⟩ := oa.unique ob
  obtain ⟨rfl, hcd⟩ := oc.unique od
  obtain ⟨rfl, hxy⟩ := ox.unique oy
  have h46 := hb5.trans (hb6.mono hb5.size)
  have h36 := hb4.trans (h46.mono hb4.size)
  have h26 := hb3.trans (h36.mono hb3.size)
  have h16 := hb2.trans (h26.mono hb2.size)
  have HK1 : Hid (∀ W, Below w6.heap.size w6 W → Calls Try.prog 27 #[va, vb] W (BoolB true W)) := fun W hW => like_any _ _ Ka Kb W ((ha.below h16).below hW) ((hb.below h26).below hW) ((ra.below h16).below hW) ((rb.below h26).below hW) hab la
  have HK2 : Hid (∀ W, Below w6.heap.size w6 W → Calls Try.prog 15 #[vc, vd] W (BoolB true W)) := fun W hW => Ytciijaejldfcaaa.like_any _ _ Kc Kd W ((hc.below h36).below hW) ((hd.below h46).below hW) ((rc.below h36).below hW) ((rd.below h46).below hW) hcd (by have := HPA.out; omega)
  have HK3 : Hid (∀ W, Below w6.heap.size w6 W → Calls Try.prog 27 #[vx, vy] W (BoolB true W)) := fun W hW => like_any _ _ Kx Ky W ((hx.below hb6).below hW) (hy.below hW) ((rx.below hb6).below hW) (ry.below hW) hxy lx
  clear ha ra la oa hb rb lb ob hc rc lc oc hd rd ld od hx rx lx ox hy ry ly oy hab hcd hxy h46 h36 h26 h16
  go_wp2_with fail
  refine (HK1.out w6 (Below.refl _ _)).mono ?_
  rintro e w7 ⟨rfl, hb7⟩
  go_wp2_with fail
  refine (HK2.out w7 hb7).mono ?_
  rintro e w8 ⟨rfl, hb8⟩
  have h68 := hb7.trans (hb8.mono hb7.size)
  go_wp2_with fail
  refine (HK3.out w8 h68).mono ?_
  rintro e w9 ⟨rfl, hb9⟩
  go_wp2_with fail
  go_ret
  exact ⟨rfl, hc6.trans ((h68.trans (hb9.mono h68.size)).mono hc6.size)⟩

end Go.Proofs.Ytciijaejldfcaaa.Up
