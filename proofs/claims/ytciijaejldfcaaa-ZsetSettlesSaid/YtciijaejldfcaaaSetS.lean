/-
  The reference's Settle.
-/
import Derived.Test.YtciijaejldfcaaaSetW
namespace Go.Proofs.Ytciijaejldfcaaa
open Go.RowKit

/-- What lies in a block of another type stays while a list grows. -/
theorem ownG_kept2 {α β : Type} {enc1 : α → List Value} {enc2 : β → List Value} {k1 k2 : Nat} {e1 e2 : TypeId} {w w' : World} {b1 b2 : Nat} {v u : Value} {l : List α} {m : List β} (h : OwnG enc1 k1 e1 w b1 v l) (ho : OwnG enc2 k2 e2 w b2 u m) (hne : e1 ≠ e2) (hg : w.grownBy w' u.ownBlock) : OwnG enc1 k1 e1 w' b1 v l := by
  refine OwnG.kept h hg ?_
  rcases OwnG.shape h with ⟨rfl, _⟩ | ⟨g, cap, rfl, _, _, _, _, _, cur, hh⟩
  · exact .inl rfl
  · right
    intro e
    rcases OwnG.shape ho with ⟨rfl, _⟩ | ⟨g', cap', rfl, _, _, _, _, _, cur', hh'⟩
    · cases e
    · injection e with e
      subst e
      rw [hh] at hh'
      injection hh' with hh'
      injection hh' with _ ht _
      exact hne ht
theorem ownD_kept2 {β : Type} {enc2 : β → List Value} {k2 : Nat} {e2 : TypeId} {w w' : World} {b1 b2 : Nat} {v u : Value} {l : List Dat} {m : List β} (h : OwnD w b1 v l) (ho : OwnG enc2 k2 e2 w b2 u m) (hne : 51 ≠ e2) (hg : w.grownBy w' u.ownBlock) : OwnD w' b1 v l := by
  refine OwnD.kept h hg ?_
  rcases h.2 with ⟨rfl, _⟩ | ⟨g, cap, cur, rfl, _, hh, _⟩
  · exact .inl rfl
  · right
    intro e
    rcases OwnG.shape ho with ⟨rfl, _⟩ | ⟨g', cap', rfl, _, _, _, _, _, cur', hh'⟩
    · cases e
    · injection e with e
      subst e
      rw [hh] at hh'
      injection hh' with hh'
      injection hh' with _ ht _
      exact hne ht
theorem CopyIn.kept2 {β : Type} {enc2 : β → List Value} {k2 : Nat} {e2 : TypeId} {w w' : World} {b1 b2 : Nat} {u : Value} {K : List Cnt} {m : List β} (h : CopyIn w b1 K) (ho : OwnG enc2 k2 e2 w b2 u m) (hne : 51 ≠ e2) (hg : w.grownBy w' u.ownBlock) : CopyIn w' b1 K := fun x hx => ownD_kept2 (h x hx) ho hne hg

end Go.Proofs.Ytciijaejldfcaaa
namespace Go.Proofs.Ytciijaejldfcaaa.Up
open Go.RowKit

/-- Each row of the updates is in memory of the call's own. -/
def CopyU (w : World) (base : Nat) (K : List Cnt) : Prop := ∀ x ∈ K, OwnD w base x.v x.l.2
theorem CopyU.below {w w' : World} {base : Nat} {K : List Cnt} (h : CopyU w base K) (hb : Below w.heap.size w w') : CopyU w' base K := fun x hx => (h x hx).below hb
theorem CopyU.more {w : World} {base base' : Nat} {K : List Cnt} (h : CopyU w base K) (hb : base' ≤ base) : CopyU w base' K := fun x hx => (h x hx).more hb
theorem CopyU.rows {w : World} {base : Nat} {K : List Cnt} (h : CopyU w base K) : RowsIn w K := fun x hx => (h x hx).row
theorem CopyU.kept2 {β : Type} {enc2 : β → List Value} {k2 : Nat} {e2 : TypeId} {w w' : World} {b1 b2 : Nat} {u : Value} {K : List Cnt} {m : List β} (h : CopyU w b1 K) (ho : OwnG enc2 k2 e2 w b2 u m) (hne : 51 ≠ e2) (hg : w.grownBy w' u.ownBlock) : CopyU w' b1 K := fun x hx => ownD_kept2 (h x hx) ho hne hg

/-- A counted row as an update. -/
def toU (t : Int) (x : Ytciijaejldfcaaa.Cnt) : Cnt := ⟨x.v, (t, x.l), x.n⟩
theorem plain_toU (t : Int) (D : List Ytciijaejldfcaaa.Cnt) : plainC (D.map (toU t)) = upT t (Ytciijaejldfcaaa.plainC D) := by
  unfold plainC upT Ytciijaejldfcaaa.plainC
  rw [List.map_map, List.map_map]
  rfl
theorem plainU_append (A B : List Cnt) : plainC (A ++ B) = plainC A ++ plainC B := by unfold plainC; rw [List.map_append]
theorem one_upd (A : Option Addr) (n c : Nat) (l : Int × List Dat) (p : Int) : ∀ x ∈ ([⟨.slice A n c, l, p⟩] : List Cnt), ∀ u ∈ encC x, u.oneCell' = true := by
  intro x hx u hu
  simp only [List.mem_singleton] at hx
  subst hx
  simp only [encC, List.mem_cons, List.not_mem_nil, or_false] at hu
  rcases hu with rfl | rfl | rfl <;> rfl
theorem valU_one (w : World) (b : Nat) (x : Cnt) (h : b = w.heap.size) : CntV (w.alloc (.cells #[x.v, .int .i64 x.l.1, .int .i64 x.n] 48)) (.slice (some ⟨b, 0, none⟩) 1 1) [x] := by
  subst h
  exact valC_lit w x

/-- What the reference's Settle leaves. -/
def RefPost (P : List CRow) (w : World) (e : Ending) (w' : World) : Prop :=
  Below w.heap.size w w' ∧ (((∃ r, fitsB (1 * cntR P r) = false) ∧ e = .returned (.tuple #[.slice none 0 0, .int .i64 30])) ∨
    ∃ v' K, e = .returned (.tuple #[v', .int .i64 0]) ∧ Tid 1 P (plainC K) ∧ CntV w' v' K ∧ RowsIn w' K ∧ K.length ≤ 1000000)

theorem eqC_ins {v u : Value} {L : List Cnt} {w W : World} (h : UpdIns w v L) (t : Int) (hW : Below w.heap.size w W) (hu : Ytciijaejldfcaaa.CntV W u (eqC L t)) : CntIns W u (eqC L t) := by
  refine ⟨hu, ?_, ?_, Nat.le_trans (eqC_len L t) h.2.2.2⟩
  · intro x hx
    obtain ⟨y, hy, rfl⟩ := eqC_mem hx
    exact (h.2.1 y hy).below hW
  · intro x hx
    obtain ⟨y, hy, rfl⟩ := eqC_mem hx
    exact h.2.2.1 y hy

set_option maxRecDepth 100000 in
set_option maxHeartbeats 4000000 in
theorem refSettle_any (v : Value) (L : List Cnt) (w : World) (h : UpdIns w v L) (hn : L.length ≤ 1000) : Calls Try.prog 22 #[v] w (RefPost (plainC L) w) := by
  obtain ⟨i0, hi, hz0, hz1, hz2⟩ := info_parts info48
  obtain ⟨j0, hj, hy0, hy1, hy2⟩ := info_parts Try.info44
  have HI := Lib.hid hi
  have HZ0 := Lib.hid hz0
  have HZ1 := Lib.hid hz1
  have HZ2 := Lib.hid hz2
  have HJ := Lib.hid hj
  have HY0 := Lib.hid hy0
  have HY1 := Lib.hid hy1
  have HY2 := Lib.hid hy2
  clear hi hz0 hz1 hz2 hj hy0 hy1 hy2
  have hb0 := (Below.refl w.heap.size w).alloc (Nat.le_refl _) (Obj.cells #[] 48)
  have HT := Lib.hid (fun W (hW : Below w.heap.size w W) => times_any v L W (h.1.below hW) (h.2.1.below hW) hn)
  have HSH := Lib.hid (shp_of h.2.1)
  have HIN : Hid (∀ t W u, Below w.heap.size w W → Ytciijaejldfcaaa.CntV W u (eqC L t) → Calls Try.prog 12 #[u] W (Ytciijaejldfcaaa.RefPost 1 (Ytciijaejldfcaaa.plainC (eqC L t)) W)) := fun t W u hW hu =>
    refTidyW u (eqC L t) W (eqC_ins h t hW hu) (Nat.le_trans (eqC_len L t) hn)
  have HQ : Hid (∀ t r, Ytciijaejldfcaaa.cntR (Ytciijaejldfcaaa.plainC (eqC L t)) r = cntR (plainC L) (t, r)) := fun t r => eqC_cnt (t, r) L
  have HLE : Hid (∀ t, (Ytciijaejldfcaaa.plainC (eqC L t)).length ≤ 1000) := fun t => by
    unfold Ytciijaejldfcaaa.plainC
    rw [List.length_map]
    exact Nat.le_trans (eqC_len L t) hn
  have HTK := Lib.hid (fun t j hj => eqC_take L t j hj)
  have HTL : Hid (∀ t j, (eqC (L.take j) t).length ≤ 1000) := fun t j => by
    have h1 := eqC_len (L.take j) t
    rw [List.length_take] at h1
    omega
  have hinv := timesR_inv L L.length (Nat.le_refl _)
  rw [List.take_length] at hinv
  have HRI : Hid (RiseI (timesR L)) := hinv.1
  have hR : (timesR L).length ≤ 1000 := by have := hinv.2.1; omega
  have HME : Hid (∀ x ∈ plainC L, x.1.1 ∈ timesR L) := by
    intro x hx
    unfold plainC at hx
    obtain ⟨y, hy, rfl⟩ := List.mem_map.mp hx
    exact (hinv.2.2 _).mpr ⟨y, hy, rfl⟩
  obtain ⟨A, c, rfl, HA⟩ : ∃ A c, v = .slice A L.length c ∧ Hid (L = [] ∨ ∃ b off, A = some ⟨b, off, none⟩ ∧ b < w.heap.size ∧ AtG encC 3 w b off L) := by
    rcases h.1 with ⟨rfl, rfl⟩ | ⟨b, off, cap, rfl, _, hb, hat, _⟩
    · exact ⟨none, 0, rfl, .inl rfl⟩
    · exact ⟨_, _, rfl, .inr ⟨b, off, rfl, hb, hat⟩⟩
  clear h hinv
  revert hR; revert HME; revert HRI; revert HT
  generalize timesR L = R
  intro HT HRI HME hR
  go_enter Try.func22, Try.ntmps22
  go_wp2_with (go_at_call 48; refine (HT.out _ hb0).mono ?_; rintro e w1 ⟨vt, rfl, htm, hb1⟩; obtain ⟨AT, cT, rfl⟩ := tm_shape htm; have HV1 := Lib.hid htm)
  have hbw1 := hb0.trans (hb1.mono hb0.size)
  have HV2 : Hid (OwnTm w1 w.heap.size (.slice AT R.length cT) R) := OwnG.more HV1.out hb0.size
  have HO1 : Hid (OwnC w1 w.heap.size (.slice (some ⟨w.heap.size, 0, none⟩) 0 0) []) := (OwnG.lit0 (enc := encC) (k := 3) 48 w w.heap.size (Nat.le_refl _)).below hb1
  clear HV1 htm HT
  go_loopw [4, 18] (fun a i wr => ∃ k : Nat, k ≤ R.length ∧ i = .int .i64 k ∧ Below w.heap.size w wr ∧ Hid (OwnTm wr w.heap.size (.slice AT R.length cT) R) ∧ ∃ K : List Cnt, K.length ≤ k * 1000 ∧ Hid (SetInv (plainC L) (R.take k) (plainC K) ∧ OwnC wr w.heap.size a K ∧ CopyU wr w.heap.size K)) (fun _ i _ => R.length - (intOf i).toNat)
  case atStart => exact ⟨0, Nat.zero_le _, rfl, hbw1, HV2, [], Nat.zero_le _, SetInv.nil _, HO1.out, by intro x hx; simp at hx⟩
  case round =>
    obtain ⟨k, hk, rfl, hb, HV, K, hK, HO⟩ := hrel
    have hz := hb.size
    by_cases hlt : k < R.length
    · obtain ⟨wo, rfl⟩ : ∃ wo : World, wo = wr := ⟨_, rfl⟩
      obtain ⟨A', c', e', HAT⟩ := TmV.open (OwnG.val hkTm HV.out)
      injection e' with e1' _ e3'
      subst e1' e3'
      obtain ⟨bt, offt, rfl, hbt, hatt⟩ := HAT.out.resolve_left (by rintro rfl; simp at hlt)
      have et := hatt k _ (List.getElem?_eq_getElem hlt)
      have HTT : Hid (R.take (k + 1) = R.take k ++ [R[k]]) := List.take_succ_eq_append_getElem hlt
      have HLT : Hid (∀ s ∈ R.take k, s < R[k]) := by
        intro s hs
        have h1 : RiseI (R.take (k + 1)) := List.Pairwise.sublist (List.take_sublist _ _) HRI.out
        rw [HTT.out] at h1
        exact (List.pairwise_append.mp h1).2.2 s hs _ (by simp)
      clear hatt HAT
      revert HLT; revert HTT; revert et
      generalize R[k] = t
      intro et HTT HLT
      have hr0 := (Below.refl wo.heap.size wo).alloc (Nat.le_refl _) (Obj.cells #[] 44)
      have HC0 : Hid (Ytciijaejldfcaaa.OwnC (wo.alloc (Obj.cells #[] 44)) wo.heap.size (.slice (some ⟨wo.heap.size, 0, none⟩) 0 0) []) := OwnG.lit0 44 _ _ (Nat.le_refl _)
      go_wp2_with fail
      go_loopw [7, 25] (fun a i wr => ∃ j : Nat, j ≤ L.length ∧ i = .int .i64 j ∧ Below wo.heap.size wo wr ∧ Hid (Ytciijaejldfcaaa.OwnC wr wo.heap.size a (eqC (L.take j) t))) (fun _ i _ => L.length - (intOf i).toNat)
      case atStart => exact ⟨0, Nat.zero_le _, rfl, hr0, HC0⟩
      case round =>
        obtain ⟨j, hj, rfl, hbs, HC⟩ := hrel
        have hzs := hbs.size
        by_cases hjl : j < L.length
        · obtain ⟨b, off, rfl, hbl, hat⟩ := HA.out.resolve_left (by rintro rfl; simp at hjl)
          have hbr := hb.trans (hbs.mono hz)
          have HX := Lib.hid (HTK.out t j hjl)
          have hml := HTL.out t j
          have e0 := (hbr.cell (p := ⟨b, off + j * 3 + 0, none⟩) hbl).trans (hat j _ (List.getElem?_eq_getElem hjl) 0 _ rfl)
          have e1 := (hbr.cell (p := ⟨b, off + j * 3 + 1, none⟩) hbl).trans (hat j _ (List.getElem?_eq_getElem hjl) 1 _ rfl)
          have e2 := (hbr.cell (p := ⟨b, off + j * 3 + 2, none⟩) hbl).trans (hat j _ (List.getElem?_eq_getElem hjl) 2 _ rfl)
          rw [Nat.add_zero] at e0
          obtain ⟨Ax, nx, cx, hxv⟩ := HSH.out _ (List.getElem_mem hjl)
          clear hat
          revert hml; revert HX; revert e2; revert e1; revert e0; revert hxv
          generalize L[j] = x
          obtain ⟨xv, ⟨xt, xr⟩, xn⟩ := x
          intro hxv e0 e1 e2 HX hml
          simp only at hxv e0 e1 e2 HX
          subst hxv
          by_cases ht : xt = t
          · rw [if_pos ht] at HX
            subst ht
            have hb7 := (hbs.alloc hzs (.cells #[.slice Ax nx cx, .int .i64 xt, .int .i64 xn] 48)).alloc (by simp; omega) (.cells #[.slice Ax nx cx, .int .i64 xn] 44)
            have HO7 := Lib.hid ((HC.out.alloc (.cells #[.slice Ax nx cx, .int .i64 xt, .int .i64 xn] 48)).alloc (.cells #[.slice Ax nx cx, .int .i64 xn] 44))
            have HV7 := Lib.hid (valC_at (wr.alloc (.cells #[.slice Ax nx cx, .int .i64 xt, .int .i64 xn] 48)) (wr.heap.size + 1) ⟨.slice Ax nx cx, xr, xn⟩ (by simp))
            go_wp2_with (at_builtin; refine wpList_append_g Ytciijaejldfcaaa.hkC (by decide) 22 44 j0 _ 32 Try.underlying22 HJ.out HY0.out HY1.out HY2.out rfl _ rfl (.tmp 33) (.tmp 39) rfl wo.heap.size _ _ (eqC (L.take j) xt) [⟨.slice Ax nx cx, xr, xn⟩] rfl rfl HO7.out HV7.out (one_cnt _ _ _ _ _) (by unfold maxLen; simp only [List.length_singleton]; omega) (by simp only [List.length_singleton]; omega) hb7.size ?_; intro v8 w8 ho8 hg8)
            have hb8 := hb7.trans (OwnG.grown HO7.out hb7.size hg8)
            go_roundw
            case rel => exact ⟨j + 1, by omega, by go_num, hb8, by rw [HX.out]; exact ho8⟩
            case measure => simp [intOf]; omega
          · rw [if_neg ht] at HX
            have hb7 := hbs.alloc hzs (.cells #[.slice Ax nx cx, .int .i64 xt, .int .i64 xn] 48)
            have HO7 := Lib.hid (HC.out.alloc (.cells #[.slice Ax nx cx, .int .i64 xt, .int .i64 xn] 48))
            go_wp2_with fail
            go_roundw
            case rel => exact ⟨j + 1, by omega, by go_num, hb7, by rw [HX.out]; exact HO7.out⟩
            case measure => simp [intOf]; omega
        · obtain rfl : j = L.length := by omega
          have HC1 := HC
          rw [List.take_length] at HC1
          have hbr := hb.trans (hbs.mono hz)
          have HTD := Lib.hid (HIN.out t wr u7 hbr (HC1.out.val Ytciijaejldfcaaa.hkC))
          clear HC HC1
          go_wp2_with fail
          refine HTD.out.mono ?_
          rintro e w3 ⟨hb3, ⟨⟨r, hr⟩, rfl⟩ | ⟨vd, D, rfl, htd, hod, hcd, hld⟩⟩
          · go_wp2_with fail
            go_ret2
            exact ⟨hbr.trans (hb3.mono hbr.size), .inl ⟨⟨(t, r), by rw [← HQ.out]; exact hr⟩, rfl⟩⟩
          · obtain ⟨AD, cD, rfl⟩ := Ytciijaejldfcaaa.OwnC.shp hod
            have h3 := hbr.trans (hb3.mono hbr.size)
            have hs3 := hbs.trans (hb3.mono hzs)
            have HVt := Lib.hid (HV.out.below hs3)
            have HOd : Hid (Ytciijaejldfcaaa.OwnC w3 w.heap.size (.slice AD D.length cD) D) := OwnG.more hod hbr.size
            have HCd := Lib.hid (hcd.more hbr.size)
            have HOk := Lib.hid (HO.out.2.1.below hs3)
            have HCk := Lib.hid (HO.out.2.2.below hs3)
            have HSI : Hid (SetInv (plainC L) (R.take (k + 1)) (plainC K ++ upT t (Ytciijaejldfcaaa.plainC D))) := by
              unfold Hid
              rw [HTT.out]
              exact HO.out.1.step HLT.out htd (HQ.out t)
            have hDl : D.length ≤ 1000 := Nat.le_trans hld (HLE.out t)
            clear hod hcd htd hld HTD HV HO
            go_wp2_with fail
            go_loopw [4, 52] (fun a i wr => ∃ j : Nat, j ≤ D.length ∧ i = .int .i64 j ∧ Below w.heap.size w wr ∧ Hid (OwnTm wr w.heap.size (.slice (some ⟨bt, offt, none⟩) R.length cT) R) ∧ Hid (Ytciijaejldfcaaa.OwnC wr w.heap.size (.slice AD D.length cD) D ∧ CopyIn wr w.heap.size D ∧ CopyU wr w.heap.size K) ∧ Hid (OwnC wr w.heap.size a (K ++ (D.take j).map (toU t)))) (fun _ i _ => D.length - (intOf i).toNat)
            case atStart => exact ⟨0, Nat.zero_le _, rfl, h3, HVt, ⟨HOd.out, HCd.out, HCk.out⟩, by rw [List.take_zero, List.map_nil, List.append_nil]; exact HOk.out⟩
            case round =>
              obtain ⟨j, hj, rfl, hbq, HVq, HDq, HOq⟩ := hrel
              have hzq := hbq.size
              by_cases hjl : j < D.length
              · obtain ⟨b, off, rfl, hat⟩ : ∃ b off, AD = some ⟨b, off, none⟩ ∧ AtG Ytciijaejldfcaaa.encC 2 wr b off D := by
                  rcases HDq.out.1.val Ytciijaejldfcaaa.hkC with ⟨_, h⟩ | ⟨b, off, cap, h, _, hb, hat, _⟩
                  · subst h; simp at hjl
                  · injection h with h1 h2 h3
                    exact ⟨b, off, h1, hat⟩
                have e0 := hat j _ (List.getElem?_eq_getElem hjl) 0 _ rfl
                have e1 := hat j _ (List.getElem?_eq_getElem hjl) 1 _ rfl
                rw [Nat.add_zero] at e0
                obtain ⟨Ay, ny, cy, hyv⟩ := ownD_shape (HDq.out.2.1 _ (List.getElem_mem hjl))
                have HX : Hid (K ++ (D.take (j + 1)).map (toU t) = (K ++ (D.take j).map (toU t)) ++ [toU t D[j]]) := by
                  unfold Hid
                  rw [List.take_succ_eq_append_getElem hjl, List.map_append, List.append_assoc]
                  rfl
                have hlk : (K ++ (D.take j).map (toU t)).length ≤ 1001000 := by rw [List.length_append, List.length_map, List.length_take]; omega
                clear hat
                revert hlk; revert HX; revert e1; revert e0; revert hyv
                generalize D[j] = x
                obtain ⟨xv, xl, xn⟩ := x
                generalize K ++ (D.take j).map (toU t) = Q at HOq
                intro hyv e0 e1 HX hlk
                simp only [toU] at hyv e0 e1 HX
                subst hyv
                have hb7 := (hbq.alloc hzq (.cells #[.slice Ay ny cy, .int .i64 xn] 44)).alloc (by simp; omega) (.cells #[.slice Ay ny cy, .int .i64 t, .int .i64 xn] 48)
                have hr7 := ((Below.refl wr.heap.size wr).alloc (Nat.le_refl _) (.cells #[.slice Ay ny cy, .int .i64 xn] 44)).alloc (by simp) (.cells #[.slice Ay ny cy, .int .i64 t, .int .i64 xn] 48)
                have HO7 := Lib.hid (HOq.out.below hr7)
                have HV7 := Lib.hid (valU_one (wr.alloc (.cells #[.slice Ay ny cy, .int .i64 xn] 44)) (wr.heap.size + 1) ⟨.slice Ay ny cy, (t, xl), xn⟩ (by simp))
                go_wp2_with (at_builtin; refine wpList_append_g hkC (by decide) 30 48 i0 _ 40 Try.underlying30 HI.out HZ0.out HZ1.out HZ2.out rfl _ rfl (.tmp 56) (.tmp 63) rfl w.heap.size _ _ Q [⟨.slice Ay ny cy, (t, xl), xn⟩] rfl rfl HO7.out HV7.out (one_upd _ _ _ _ _) (by unfold maxLen; simp only [List.length_singleton]; omega) (by simp only [List.length_singleton]; omega) hb7.size ?_; intro v8 w8 ho8 hg8)
                have hb8 := hb7.trans (OwnG.grown HO7.out hb7.size hg8)
                have HV8 := Lib.hid (ownG_kept2 (HVq.out.below hr7) HO7.out (by decide) hg8)
                have HD8 : Hid (Ytciijaejldfcaaa.OwnC w8 w.heap.size (.slice (some ⟨b, off, none⟩) D.length cD) D ∧ CopyIn w8 w.heap.size D ∧ CopyU w8 w.heap.size K) :=
                  ⟨ownG_kept2 (HDq.out.1.below hr7) HO7.out (by decide) hg8, CopyIn.kept2 (HDq.out.2.1.below hr7) HO7.out (by decide) hg8, CopyU.kept2 (HDq.out.2.2.below hr7) HO7.out (by decide) hg8⟩
                go_roundw
                case rel => exact ⟨j + 1, by omega, by go_num, hb8, HV8, HD8, by rw [HX.out]; exact ho8⟩
                case measure => simp [intOf]; omega
              · obtain rfl : j = D.length := by omega
                have HO9 := HOq
                rw [List.take_length] at HO9
                have HE : Hid (SetInv (plainC L) (R.take (k + 1)) (plainC (K ++ D.map (toU t))) ∧ OwnC wr w.heap.size u4 (K ++ D.map (toU t)) ∧ CopyU wr w.heap.size (K ++ D.map (toU t))) := by
                  refine ⟨?_, HO9.out, ?_⟩
                  · rw [plainU_append, plain_toU]; exact HSI.out
                  · intro x hx
                    rcases List.mem_append.mp hx with hx | hx
                    · exact HDq.out.2.2 x hx
                    · obtain ⟨y, hy, rfl⟩ := List.mem_map.mp hx
                      exact HDq.out.2.1 y hy
                have hKl : (K ++ D.map (toU t)).length ≤ (k + 1) * 1000 := by rw [List.length_append, List.length_map]; omega
                clear HOq HO9 HDq
                go_wp2_with fail
                exact ⟨⟨k + 1, by omega, by go_num, hbq, HVq, _, hKl, HE⟩, by simp [intOf]; omega⟩
    · obtain rfl : k = R.length := by omega
      have HD : Hid (Tid 1 (plainC L) (plainC K)) := by
        have h1 := HO.out.1
        rw [List.take_length] at h1
        exact h1.tid HME.out
      have hKL : K.length ≤ 1000000 := by omega
      go_wp2_with fail
      go_ret2
      exact ⟨hb, .inr ⟨_, K, rfl, HD.out, HO.out.2.1.val hkC, HO.out.2.2.rows, hKL⟩⟩

end Go.Proofs.Ytciijaejldfcaaa.Up
