/-
  The walk of the law ZsetOwn: it returns true of every list of counted rows.
-/
import Derived.Test.YtciijaejldfcaaaRefE
namespace Go.Proofs.Ytciijaejldfcaaa
open Go.RowKit

/-- Outside of the blocks from lo to hi nothing has changed. -/
structure Mid (lo hi : Nat) (W w : World) : Prop where
  os : w.os = W.os
  tape : w.tape = W.tape
  output : w.output = W.output
  size : W.heap.size ≤ w.heap.size
  block : ∀ k < W.heap.size, k < lo ∨ hi ≤ k → w.heap[k]? = W.heap[k]?
theorem Mid.refl (lo hi : Nat) (W : World) : Mid lo hi W W := ⟨rfl, rfl, rfl, Nat.le_refl _, fun _ _ _ => rfl⟩
theorem Mid.set {lo hi : Nat} {W w : World} (h : Mid lo hi W w) {b : Nat} (h1 : lo ≤ b) (h2 : b < hi) (j : Nat) (u : Value) : Mid lo hi W (w.setCell ⟨b, j, none⟩ u) :=
  ⟨h.os, h.tape, h.output, by simpa using h.size, fun k hk ho => (Below.heap_setCell w ⟨b, j, none⟩ u k (by simp; omega)).trans (h.block k hk ho)⟩
theorem Mid.drew {lo hi : Nat} {W w : World} (h : Mid lo hi W w) : Mid lo hi W w.drew := ⟨h.os, h.tape, h.output, h.size, h.block⟩
theorem Mid.alloc {lo hi : Nat} {W w : World} (h : Mid lo hi W w) (o : Obj) : Mid lo hi W (w.alloc o) :=
  ⟨h.os, h.tape, h.output, by have := h.size; simp; omega, fun k hk ho => (heap_alloc_old _ _ (Nat.lt_of_lt_of_le hk h.size)).trans (h.block k hk ho)⟩
theorem Mid.below {lo hi : Nat} {W w : World} (h : Mid lo hi W w) (hlo : lo ≤ W.heap.size) : Below lo W w := ⟨h.os, h.tape, h.output, h.size, fun k hk => h.block k (by omega) (.inl hk)⟩
theorem OwnC.mid {lo hi : Nat} {W w : World} {v : Value} {K : List Cnt} (ho : OwnC W hi v K) (h : Mid lo hi W w) : CntV w v K := by
  have hlt := OwnG.lt ho
  rcases ho.val hkC with h1 | ⟨b, off, cap, e, hm, hb, hat, hc⟩
  · exact .inl h1
  · have h2 : hi ≤ b := (hlt b (by rw [e]; rfl)).1
    exact .inr ⟨b, off, cap, e, hm, Nat.lt_of_lt_of_le hb h.size, AtG.block hat (h.block b hb (.inr h2)), hc⟩
theorem FreshIn.mid {lo hi : Nat} {W w : World} {K : List Cnt} (hf : FreshIn W hi K) (h : Mid lo hi W w) : FreshIn w hi K := by
  intro x hx
  obtain ⟨b, e, hb, hk⟩ := hf x hx
  refine ⟨b, e, hb, ?_⟩
  unfold Blk at hk ⊢
  rw [h.block b (Array.getElem?_eq_some_iff.mp hk).1 (.inr hb)]
  exact hk

/-- Rows that may be written: each in a block of its kind, from lo to hi. -/
def Rws (lo hi : Nat) (w : World) (K : List Cnt) : Prop := ∀ x ∈ K, ∃ b cs, x.v = .slice (some ⟨b, 0, none⟩) x.l.length x.l.length ∧ lo ≤ b ∧ b < hi ∧ Blk w b cs 51 ∧ cs.size = x.l.length * 3
theorem Rws.set {lo hi : Nat} {w : World} {K : List Cnt} (h : Rws lo hi w K) (b j : Nat) (u : Value) : Rws lo hi (w.setCell ⟨b, j, none⟩ u) K := by
  intro x hx
  obtain ⟨b', cs, e, h1, h2, h3, h4⟩ := h x hx
  by_cases hb : b = b'
  · subst hb
    exact ⟨b, _, e, h1, h2, h3.set j u, by simpa using h4⟩
  · exact ⟨b', cs, e, h1, h2, h3.setOther hb j u, h4⟩
theorem Rws.alloc {lo hi : Nat} {w : World} {K : List Cnt} (h : Rws lo hi w K) (o : Obj) : Rws lo hi (w.alloc o) K := by
  intro x hx
  obtain ⟨b', cs, e, h1, h2, h3, h4⟩ := h x hx
  exact ⟨b', cs, e, h1, h2, h3.alloc o, h4⟩
theorem ownC_setRow {w : World} {base b : Nat} {v : Value} {K : List Cnt} {cs : Array Value} (h : OwnC w base v K) (hb : Blk w b cs 51) (j : Nat) (u : Value) : OwnC (w.setCell ⟨b, j, none⟩ u) base v K := by
  refine OwnG.kept h (grown_put w b j u) ?_
  rcases OwnG.shape h with ⟨rfl, _⟩ | ⟨g', cap', rfl, _, _, _, _, _, cur', hh'⟩
  · exact .inl rfl
  · right
    intro e
    injection e with e
    subst e
    unfold Blk at hb
    rw [hb] at hh'
    injection hh' with hh'
    injection hh' with _ ht _
    cases ht

set_option maxRecDepth 100000 in
set_option maxHeartbeats 16000000 in
theorem own_core (v : Value) (X : List Cnt) (w : World) (hv : CntV w v X) (hr : RowsIn w X) (hbx : ∀ x ∈ X, RowB x.l ∧ -9223372036854775808 ≤ x.n ∧ x.n ≤ 9223372036854775807) :
    Calls Try.prog 8 #[v] w (BoolB true w) := by
  have HCUT := Lib.hid (cut_any v X w hv)
  have HIN : Hid (∀ v1 W, CntV w v1 (X.take 60) → Below w.heap.size w W → CntIns W v1 (X.take 60)) := fun v1 W h1 hW =>
    ⟨h1.below hW, fun x hx => (hr x (List.mem_of_mem_take hx)).below hW, fun x hx => hbx x (List.mem_of_mem_take hx), by rw [List.length_take]; omega⟩
  have hM : (X.take 60).length ≤ 60 := by rw [List.length_take]; omega
  clear hv hr hbx
  revert hM; revert HIN; revert HCUT
  generalize X.take 60 = M
  intro HCUT HIN hM
  have HPL : Hid ((plainC M).length = M.length) := by unfold Hid plainC; rw [List.length_map]
  go_enter Try.func8, Try.ntmps8
  go_wp2_with fail
  refine HCUT.out.mono ?_
  rintro e w0 ⟨v1, rfl, hv1, rfl⟩
  have HM := Lib.hid (HIN.out v1)
  have HV1 := Lib.hid hv1
  clear HIN HCUT hv1
  have hc0 : Below w.heap.size w w := Below.refl _ _
  have HRB := Lib.hid (plain_rowB (HM.out w HV1.out hc0).2.2.1)
  go_wp2_with fail
  refine (lp_rtidy v1 M w (HM.out w HV1.out hc0) (by omega)).mono ?_
  rintro e w1 ⟨va, Ka, Ea, rfl, ha, ra, la, hb1, oa⟩
  go_wp2_with fail
  refine (tidy_any v1 M w1 (HM.out w1 HV1.out hb1)).mono ?_
  rintro e w2 ⟨hb2, hres⟩
  have hc2 := hb1.trans (hb2.mono hb1.size)
  rcases hres with ⟨hbad, rfl⟩ | ⟨vx, Kx, rfl, htx, hox, hfx, hlx⟩
  · obtain ⟨rfl, hax⟩ := oa.unique (T' := []) (.inl ⟨rfl, rfl, hbad⟩ : Out 1 (plainC M) id 30 [])
    go_wp2_with fail
    refine (tidy_any v1 M w2 (HM.out w2 HV1.out hc2)).mono ?_
    rintro e w3 ⟨hb3, ⟨hbad2, rfl⟩ | ⟨vb, Kb, rfl, htb, hob, hfb, hlb⟩⟩
    · have hc3 := hc2.trans (hb3.mono hc2.size)
      go_wp2_with fail
      go_loopw [33] (fun i wr => i = .int .i64 0 ∧ wr = w3) (fun _ _ => 0)
      case atStart => exact ⟨rfl, rfl⟩
      case round =>
        obtain ⟨rfl, hwr⟩ := hrel
        subst hwr
        go_wp2_with fail
        refine (lp_rtidy v1 M _ (HM.out _ HV1.out hc3) (by omega)).mono ?_
        rintro e w5 ⟨vr, Kr, Er, rfl, hr5, rr, lr, hb5, or5⟩
        obtain ⟨rfl, hrx⟩ := or5.unique oa
        have hc5 := hc3.trans (hb5.mono hc3.size)
        have h15 := (hb2.trans (hb3.mono hb2.size)).trans (hb5.mono (hb2.trans (hb3.mono hb2.size)).size)
        have HK1 : Hid (∀ W, Below w5.heap.size w5 W → Calls Try.prog 15 #[.slice none 0 0, va] W (BoolB true W)) := fun W hW => like_any _ _ [] Ka W (.inl ⟨rfl, rfl⟩) ((ha.below h15).below hW) (by intro x hx; simp at hx) ((ra.below h15).below hW) hax.symm (by simp)
        have HK2 : Hid (∀ W, Below w5.heap.size w5 W → Calls Try.prog 15 #[vr, va] W (BoolB true W)) := fun W hW => like_any _ _ Kr Ka W (hr5.below hW) ((ha.below h15).below hW) (rr.below hW) ((ra.below h15).below hW) hrx (by rw [HPL.out] at lr; omega)
        clear ha ra la oa hr5 rr lr or5 hax hrx
        go_wp2_with fail
        refine (HK1.out w5 (Below.refl _ _)).mono ?_
        rintro e w6 ⟨rfl, hb6⟩
        go_wp2_with fail
        refine (HK2.out w6 hb6).mono ?_
        rintro e w7 ⟨rfl, hb7⟩
        go_wp2_with fail
        go_ret
        exact ⟨rfl, hc5.trans ((hb6.trans (hb7.mono hb6.size)).mono hc5.size)⟩
    · obtain ⟨r, hr⟩ := hbad
      rw [tid_fits htb r] at hr; cases hr
  · obtain ⟨rfl, hax⟩ := oa.unique (T' := plainC Kx) (.inr ⟨rfl, _, htx, rfl⟩ : Out 1 (plainC M) id 0 (plainC Kx))
    obtain ⟨Ax, cx, rfl⟩ := OwnC.shp hox
    go_wp2_with fail
    refine (tidy_any v1 M w2 (HM.out w2 HV1.out hc2)).mono ?_
    rintro e w3 ⟨hb3, ⟨hbad, rfl⟩ | ⟨vb, Kb, rfl, htb, hob, hfb, hlb⟩⟩
    · obtain ⟨r, hr⟩ := hbad
      rw [tid_fits htx r] at hr; cases hr
    · have hc3 := hc2.trans (hb3.mono hc2.size)
      have h23 := hb2.trans (hb3.mono hb2.size)
      have hbx' : plainC Kb = plainC Ka := by rw [hax]; exact htb.unique htx fun r => rfl
      have HA : Hid (Kx = [] ∨ ∃ g, Ax = some ⟨g, 0, none⟩ ∧ w1.heap.size ≤ g ∧ g < w2.heap.size) := by
        rcases OwnG.shape hox with ⟨e, h0⟩ | ⟨g, cap, e, hbg, hgw, _⟩
        · exact .inl h0
        · injection e with e1 _ _
          exact .inr ⟨g, e1, hbg, hgw⟩
      have HRW0 : Hid (Rws w1.heap.size w2.heap.size w3 Kx) := by
        intro x hx
        obtain ⟨b, e, h1, h2⟩ := hfx x hx
        exact ⟨b, _, e, h1, h2.lt, h2.below hb3, by rw [List.size_toArray, cells_len]⟩
      have HO0 : Hid (OwnC w3 w1.heap.size (.slice Ax Kx.length cx) Kx) := hox.below hb3
      have HRBX := Lib.hid (tid_rowB htx HRB.out)
      have HOB := Lib.hid hob
      have HFB := Lib.hid hfb
      have HRBB := Lib.hid (tid_rowB htb HRB.out)
      have hlb2 : Kb.length ≤ 1000000 := by rw [HPL.out] at hlb; omega
      have hlx2 : Kx.length ≤ 60 := by rw [HPL.out] at hlx; omega
      have hz12 := hb2.size
      have hz23 := hb3.size
      have hz1 := hb1.size
      clear hox hfx htx htb hob hfb hlb hlx
      go_wp2_with fail
      go_loopw [33] (fun i wr => ∃ k : Nat, k ≤ Kx.length ∧ i = .int .i64 k ∧ Hid (Mid w1.heap.size w2.heap.size w3 wr ∧ Rws w1.heap.size w2.heap.size wr Kx) ∧ ∃ K' : List Cnt, Hid (K'.map (·.v) = Kx.map (·.v)) ∧ Hid (OwnC wr w1.heap.size (.slice Ax Kx.length cx) K')) (fun i _ => Kx.length - (intOf i).toNat)
      case atStart => exact ⟨0, Nat.zero_le _, rfl, ⟨Mid.refl _ _ _, HRW0.out⟩, Kx, rfl, HO0.out⟩
      case round =>
        obtain ⟨k, hk, rfl, HMD, K', HVV, HOK⟩ := hrel
        by_cases hlt : k < Kx.length
        · obtain ⟨g, rfl, hg1, hg2⟩ := HA.out.resolve_left (by rintro rfl; simp at hlt)
          have hKl : K'.length = Kx.length := by have h := congrArg List.length HVV.out; simpa using h
          have hkv : K'[k].v = Kx[k].v := by
            have h := congrArg (fun l => l[k]?) HVV.out
            simp only [List.getElem?_map, List.getElem?_eq_getElem (show k < K'.length by omega), List.getElem?_eq_getElem hlt, Option.map_some, Option.some.injEq] at h
            exact h
          obtain ⟨b, cs0, hbv, hb1', hb2', hblk, hcs⟩ := HMD.out.2 _ (List.getElem_mem hlt)
          have HPUT : Hid (∀ w', OwnC w' w1.heap.size (.slice (some ⟨g, 0, none⟩) Kx.length cx) K' → w'.cell? ⟨g, k * 2, none⟩ = some (.slice (some ⟨b, 0, none⟩) Kx[k].l.length Kx[k].l.length) ∧ (∃ u, w'.cell? ⟨g, k * 2 + 1, none⟩ = some (.int .i64 u)) ∧ w'.frozen? ⟨g, k * 2 + 1, none⟩ = false ∧ OwnC (w'.setCell ⟨g, k * 2 + 1, none⟩ (.int .i64 7)) w1.heap.size (.slice (some ⟨g, 0, none⟩) Kx.length cx) (K'.set k ⟨K'[k].v, K'[k].l, 7⟩)) := by
            intro w' h'
            have hat := h'.at hKl
            have a0 := hat k _ (List.getElem?_eq_getElem (show k < K'.length by omega)) 0 _ rfl
            have a1 := hat k _ (List.getElem?_eq_getElem (show k < K'.length by omega)) 1 _ rfl
            rw [Nat.zero_add, Nat.add_zero, hkv, hbv] at a0
            rw [Nat.zero_add] at a1
            refine ⟨a0, ⟨_, a1⟩, ?_, OwnC.putN h' hKl _ (List.getElem?_eq_getElem (by omega)) 7⟩
            exact World.ownsRow.frozenAt (by have h2 := h'; unfold OwnC OwnG at h2; rw [hKl] at h2; exact h2) _
          have HSV : Hid ((K'.set k ⟨K'[k].v, K'[k].l, 7⟩).map (·.v) = Kx.map (·.v)) := by
            unfold Hid
            rw [List.map_set, ← HVV.out]
            have h2 : (K'.map (·.v))[k]'(by simpa using (show k < K'.length by omega)) = K'[k].v := by simp
            rw [← h2, List.set_getElem_self]
          have hnl : Kx[k].l.length * 32 ≤ 140737488355328 := (HRBX.out _ (List.getElem_mem hlt)).1
          have HBK : Hid (∀ w', Rws w1.heap.size w2.heap.size w' Kx → ∃ cs, Blk w' b cs 51 ∧ cs.size = Kx[k].l.length * 3) := by
            intro w' h'
            obtain ⟨b', cs, e, _, _, h3, h4⟩ := h' _ (List.getElem_mem hlt)
            rw [hbv] at e
            injection e with e1 _ _
            injection e1 with e1
            injection e1 with e1 _
            subst e1
            exact ⟨cs, h3, h4⟩
          clear hkv hbv hblk hcs
          revert hnl; revert HBK; revert HSV; revert HPUT
          generalize K'.set k ⟨K'[k].v, K'[k].l, 7⟩ = K''
          generalize Kx[k].l.length = n
          intro HPUT HSV HBK hnl
          obtain ⟨p0, ⟨u1, p1⟩, p2, _⟩ := HPUT.out wr HOK.out
          go_wp2_with fail
          clear p0 p1 p2
          go_loopw [42] (fun i ws => ∃ j : Nat, j ≤ n ∧ i = .int .i64 j ∧ Hid (Mid w1.heap.size w2.heap.size w3 ws ∧ Rws w1.heap.size w2.heap.size ws Kx) ∧ Hid (OwnC ws w1.heap.size (.slice (some ⟨g, 0, none⟩) Kx.length cx) K')) (fun i _ => n - (intOf i).toNat)
          case atStart => exact ⟨0, Nat.zero_le _, rfl, HMD, HOK⟩
          case round =>
            obtain ⟨j, hj, rfl, HMS, HOS⟩ := hrel
            obtain ⟨p0, ⟨u1, p1⟩, p2, HPN⟩ := HPUT.out _ HOS.out
            by_cases hjl : j < n
            · obtain ⟨cs, hbk, hsz⟩ := HBK.out _ HMS.out.2
              have f0 := hbk.frozen (j * 3)
              have f1 := hbk.frozen (j * 3 + 1)
              have f2 := hbk.frozen (j * 3 + 2)
              obtain ⟨c0, q0⟩ : ∃ c, _ = some c := ⟨_, (hbk.cell (j * 3)).trans (Array.getElem?_eq_getElem (by omega))⟩
              obtain ⟨c1, q1⟩ : ∃ c, _ = some c := ⟨_, (hbk.cell (j * 3 + 1)).trans (Array.getElem?_eq_getElem (by omega))⟩
              obtain ⟨c2, q2⟩ : ∃ c, _ = some c := ⟨_, (hbk.cell (j * 3 + 2)).trans (Array.getElem?_eq_getElem (by omega))⟩
              have HNX : Hid (∀ (x y z : Value), (Mid w1.heap.size w2.heap.size w3 (((wr.setCell ⟨b, j * 3, none⟩ x).setCell ⟨b, j * 3 + 1, none⟩ y).setCell ⟨b, j * 3 + 2, none⟩ z) ∧ Rws w1.heap.size w2.heap.size (((wr.setCell ⟨b, j * 3, none⟩ x).setCell ⟨b, j * 3 + 1, none⟩ y).setCell ⟨b, j * 3 + 2, none⟩ z) Kx) ∧ OwnC (((wr.setCell ⟨b, j * 3, none⟩ x).setCell ⟨b, j * 3 + 1, none⟩ y).setCell ⟨b, j * 3 + 2, none⟩ z) w1.heap.size (.slice (some ⟨g, 0, none⟩) Kx.length cx) K') := fun x y z =>
                ⟨⟨((HMS.out.1.set hb1' hb2' _ _).set hb1' hb2' _ _).set hb1' hb2' _ _, ((HMS.out.2.set _ _ _).set _ _ _).set _ _ _⟩, ownC_setRow (ownC_setRow (ownC_setRow HOS.out hbk _ _) (hbk.set _ _) _ _) ((hbk.set _ _).set _ _) _ _⟩
              clear hbk hsz p1 p2 HPN
              go_wp2_with fail
              exact ⟨⟨j + 1, by omega, by go_num, (HNX.out _ _ _).1, (HNX.out _ _ _).2⟩, by simp [intOf]; omega⟩
            · obtain rfl : j = n := by omega
              go_wp2_with fail
              exact ⟨⟨k + 1, by omega, by go_num, ⟨HMS.out.1.set hg1 hg2 _ _, HMS.out.2.set _ _ _⟩, K'', HSV, HPN⟩, by simp [intOf]; omega⟩
        · have hmb := HMD.out.1.below (by omega)
          have h1r := h23.trans hmb
          have hcr := hb1.trans (h1r.mono hz1)
          have hvb := HOB.out.mid HMD.out.1
          have hrb := (HFB.out.mid HMD.out.1).rows HRBB.out
          clear HMD HOK HVV HA HRW0 HO0 HOB HFB
          go_wp2_with fail
          refine (lp_rtidy v1 M wr (HM.out wr HV1.out hcr) (by omega)).mono ?_
          rintro e w5 ⟨vr, Kr, Er, rfl, hr5, rr, lr, hb5, or5⟩
          obtain ⟨rfl, hrx⟩ := or5.unique oa
          have hc5 := hcr.trans (hb5.mono hcr.size)
          have h15 := h1r.trans (hb5.mono h1r.size)
          have HK1 : Hid (∀ W, Below w5.heap.size w5 W → Calls Try.prog 15 #[vb, va] W (BoolB true W)) := fun W hW => like_any _ _ Kb Ka W ((hvb.below hb5).below hW) ((ha.below h15).below hW) ((hrb.below hb5).below hW) ((ra.below h15).below hW) hbx' hlb2
          have HK2 : Hid (∀ W, Below w5.heap.size w5 W → Calls Try.prog 15 #[vr, va] W (BoolB true W)) := fun W hW => like_any _ _ Kr Ka W (hr5.below hW) ((ha.below h15).below hW) (rr.below hW) ((ra.below h15).below hW) hrx (by rw [HPL.out] at lr; omega)
          clear ha ra la oa hr5 rr lr or5 hax hrx hvb hrb hbx'
          go_wp2_with fail
          refine (HK1.out w5 (Below.refl _ _)).mono ?_
          rintro e w6 ⟨rfl, hb6⟩
          go_wp2_with fail
          refine (HK2.out w6 hb6).mono ?_
          rintro e w7 ⟨rfl, hb7⟩
          go_wp2_with fail
          go_ret
          exact ⟨rfl, hc5.trans ((hb6.trans (hb7.mono hb6.size)).mono hc5.size)⟩

end Go.Proofs.Ytciijaejldfcaaa
