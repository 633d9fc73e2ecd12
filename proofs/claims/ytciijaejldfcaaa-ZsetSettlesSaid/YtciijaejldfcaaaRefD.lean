/-
  The reference's Tidy and Negate.
-/
import Derived.Test.YtciijaejldfcaaaRefT
namespace Go.Proofs.Ytciijaejldfcaaa
open Go.RowKit

/-- Each row is in memory of the call's own. -/
def CopyIn (w : World) (base : Nat) (K : List Cnt) : Prop := ∀ x ∈ K, OwnD w base x.v x.l
theorem CopyIn.below {w w' : World} {base : Nat} {K : List Cnt} (h : CopyIn w base K) (hb : Below w.heap.size w w') : CopyIn w' base K := fun x hx => (h x hx).below hb
theorem CopyIn.more {w : World} {base base' : Nat} {K : List Cnt} (h : CopyIn w base K) (hb : base' ≤ base) : CopyIn w base' K := fun x hx => (h x hx).more hb
theorem CopyIn.rows {w : World} {base : Nat} {K : List Cnt} (h : CopyIn w base K) : RowsIn w K := fun x hx => (h x hx).row
theorem OwnD.keptC {w w' : World} {base b0 : Nat} {v u : Value} {l : List Dat} {K : List Cnt} (h : OwnD w base v l) (ho : OwnC w b0 u K) (hg : w.grownBy w' u.ownBlock) : OwnD w' base v l := by
  refine OwnD.kept h hg ?_
  rcases h.2 with ⟨rfl, _⟩ | ⟨g, cap, cur, rfl, _, hh, _⟩
  · exact .inl rfl
  · right
    intro e
    rcases OwnG.shape ho with ⟨rfl, _⟩ | ⟨g', cap', rfl, _, _, _, _, _, cur', hh'⟩
    · cases e
    · injection e with e
      subst e
      rw [hh] at hh'
      injection hh' with hh'
      injection hh' with _ ht _
      cases ht
theorem CopyIn.kept {w w' : World} {base b0 : Nat} {u : Value} {K K0 : List Cnt} (h : CopyIn w base K) (ho : OwnC w b0 u K0) (hg : w.grownBy w' u.ownBlock) : CopyIn w' base K := fun x hx => (h x hx).keptC ho hg

theorem ownD_shape {w : World} {base : Nat} {v : Value} {l : List Dat} (h : OwnD w base v l) : ∃ A n c, v = .slice A n c := by
  rcases h.2 with ⟨rfl, _⟩ | ⟨g, cap, cur, rfl, _⟩
  · exact ⟨_, _, _, rfl⟩
  · exact ⟨_, _, _, rfl⟩
theorem one_cnt (A : Option Addr) (n c : Nat) (l : List Dat) (p : Int) : ∀ x ∈ ([⟨.slice A n c, l, p⟩] : List Cnt), ∀ u ∈ encC x, u.oneCell' = true := by
  intro x hx u hu
  simp only [List.mem_singleton] at hx
  subst hx
  simp only [encC, List.mem_cons, List.not_mem_nil, or_false] at hu
  rcases hu with rfl | rfl <;> rfl
theorem rw_shape {w : World} {base : Nat} {v : Value} {L : List Rw} (h : OwnRw w base v L) : ∃ A c, v = .slice A L.length c := by
  rcases OwnG.shape h with ⟨rfl, rfl⟩ | ⟨g, cap, rfl, _⟩
  · exact ⟨_, _, rfl⟩
  · exact ⟨_, _, rfl⟩
/-- A list of rows of the call's own stays while one of counted rows grows. -/
theorem ownR_kept {w w' : World} {b1 b2 : Nat} {v u : Value} {R : List Rw} {K : List Cnt} (h : OwnRw w b1 v R) (ho : OwnC w b2 u K) (hg : w.grownBy w' u.ownBlock) : OwnRw w' b1 v R := by
  refine OwnG.kept h hg ?_
  rcases OwnG.shape h with ⟨rfl, _⟩ | ⟨g, cap, rfl, _, _, _, _, _, cur, hh⟩
  · exact .inl rfl
  · right
    intro e
    rcases OwnG.shape ho with ⟨rfl, _⟩ | ⟨g', cap', rfl, _, _, _, _, _, cur', hh'⟩
    · cases e
    · injection e with e
      subst e
      rw [hh] at hh'
      injection hh' with hh'
      injection hh' with _ ht _
      cases ht

/-- What the reference's tidy leaves: the tidy list in new memory, or ErrDiff. -/
def RefPost (sg : Int) (P : List CRow) (w : World) (e : Ending) (w' : World) : Prop :=
  Below w.heap.size w w' ∧ (((∃ r, fitsB (sg * cntR P r) = false) ∧ e = .returned (.tuple #[.slice none 0 0, .int .i64 30])) ∨
    ∃ v' K, e = .returned (.tuple #[v', .int .i64 0]) ∧ Tid sg P (plainC K) ∧ OwnC w' w.heap.size v' K ∧ CopyIn w' w.heap.size K ∧ K.length ≤ P.length)

theorem zOf_neg (m : Bool) (D : List Int) : zOf (!m && decide (0 < D.length)) D = -zOf m D := by
  cases D
  · cases m <;> simp [zOf, valD]
  · cases m <;> simp [zOf]

set_option maxRecDepth 100000 in
set_option maxHeartbeats 4000000 in
theorem refTidy_any (v : Value) (L : List Cnt) (w : World) (hv : CntV w v L) (hr : RowsIn w L) (hN : ∀ y ∈ L, RowB y.l ∧ -9223372036854775808 ≤ y.n ∧ y.n ≤ 9223372036854775807) (hn : L.length ≤ 1000) :
    Calls Try.prog 35 #[v, .bool false] w (RefPost 1 (plainC L) w) := by
  obtain ⟨i0, hi, hz0, hz1, hz2⟩ := info_parts Try.info44
  have HI := Lib.hid hi
  have HZ0 := Lib.hid hz0
  have HZ1 := Lib.hid hz1
  have HZ2 := Lib.hid hz2
  clear hi hz0 hz1 hz2
  have hb0 := (Below.refl w.heap.size w).alloc (Nat.le_refl _) (Obj.cells #[] 44)
  have HRW := Lib.hid (fun W (hW : Below w.heap.size w W) => rows_any v L W (hv.below hW) (hr.below hW) hn)
  have HSU : Hid (∀ (x : Rw) W, Below w.heap.size w W → RowV W x.v x.l → Calls Try.prog 55 #[v, x.v] W (BigPost (cntR (plainC L) x.l) W)) := fun x W hW hx => sum_any v L x W (hv.below hW) (hr.below hW) hx (fun y hy => (hN y hy).2) hn
  have HRM : Hid (∀ r, -1000000000000000000000000 < cntR (plainC L) r ∧ cntR (plainC L) r < 1000000000000000000000000) := fun r => by
    have h := cnt_room L r L.length hn (fun y hy => (hN y hy).2)
    rwa [List.take_length] at h
  have hinv := rowsR_inv L L.length (Nat.le_refl _)
  have hlen := rowsR_len L L.length (Nat.le_refl _)
  rw [List.take_length] at hinv hlen
  have HRI : Hid (Rise (rowsR L)) := hinv.1
  have HME : Hid (∀ x ∈ plainC L, x.1 ∈ (rowsR L).map (·.l)) := by
    intro x hx
    unfold plainC at hx
    obtain ⟨y, hy, rfl⟩ := List.mem_map.mp hx
    obtain ⟨z, hz, e⟩ := (hinv.2.1 y.l).mpr ⟨y, hy, rfl⟩
    exact List.mem_map.mpr ⟨z, hz, e⟩
  have HRV : Hid (∀ W, Below w.heap.size w W → ∀ y ∈ rowsR L, RowV W y.v y.l ∧ RowB y.l) := by
    intro W hW y hy
    obtain ⟨c, hc, h1, h2⟩ := hinv.2.2 y hy
    rw [h1, h2]
    exact ⟨(hr c hc).below hW, (hN c hc).1⟩
  have HPL : Hid (L.length = (plainC L).length) := by unfold Hid plainC; rw [List.length_map]
  have hR1000 : (rowsR L).length ≤ 1000 := by omega
  clear hinv hv hr hN
  revert hR1000; revert hlen; revert HRV; revert HME; revert HRI; revert HRW
  generalize rowsR L = R
  intro HRW HRI HME HRV hlen hR1000
  go_enter Try.func35, Try.ntmps35
  go_wp2_with (go_at_call 54; refine (HRW.out _ hb0).mono ?_; rintro e w1 ⟨vr, rfl, hrv, hb1⟩; obtain ⟨A, c, rfl⟩ := rw_shape hrv; have HV1 := Lib.hid hrv)
  have hbw1 := hb0.trans (hb1.mono hb0.size)
  have HV2 : Hid (OwnRw w1 w.heap.size (.slice A R.length c) R) := OwnG.more HV1.out hb0.size
  have HO1 : Hid (OwnC w1 w.heap.size (.slice (some ⟨w.heap.size, 0, none⟩) 0 0) []) := (OwnG.lit0 (enc := encC) (k := 2) 44 w w.heap.size (Nat.le_refl _)).below hb1
  clear HV1 hrv
  go_loopw [6, 16] (fun a i wr => ∃ k : Nat, k ≤ R.length ∧ i = .int .i64 k ∧ Below w.heap.size w wr ∧ Hid (OwnRw wr w.heap.size (.slice A R.length c) R) ∧ Hid (∀ r ∈ (R.take k).map (·.l), fitsB (1 * cntR (plainC L) r) = true) ∧ ∃ K : List Cnt, K.length ≤ k ∧ Hid (plainC K = toldR 1 (plainC L) ((R.take k).map (·.l)) ∧ OwnC wr w.heap.size a K ∧ CopyIn wr w.heap.size K)) (fun _ i _ => R.length - (intOf i).toNat)
  case atStart => exact ⟨0, Nat.zero_le _, rfl, hbw1, HV2, by intro r hr; simp at hr, [], Nat.zero_le _, rfl, HO1.out, by intro x hx; simp at hx⟩
  case round =>
    obtain ⟨k, hk, rfl, hb, HV, HFT, K, hK, HO⟩ := hrel
    have hz := hb.size
    by_cases hlt : k < R.length
    · obtain ⟨A', c', e', HA⟩ := RwsV.open (OwnG.val hkR HV.out)
      injection e' with e1' _ e3'
      subst e1' e3'
      obtain ⟨b, off, rfl, hbl, hat⟩ := HA.out.resolve_left (by rintro rfl; simp at hlt)
      have e0 := hat k _ (List.getElem?_eq_getElem hlt)
      have hy := HRV.out wr hb _ (List.getElem_mem hlt)
      have HY := Lib.hid hy.1
      have HB := Lib.hid hy.2
      have HS1 : Hid (Calls Try.prog 55 #[v, R[k].v] wr (BigPost (cntR (plainC L) R[k].l) wr)) := HSU.out R[k] wr hb hy.1
      have HTK : Hid ((R.take (k + 1)).map (·.l) = (R.take k).map (·.l) ++ [R[k].l]) := by
        unfold Hid
        rw [List.take_succ_eq_append_getElem hlt, List.map_append]
        rfl
      have HSN := Lib.hid (toldR_snoc 1 (plainC L) ((R.take k).map (·.l)) R[k].l)
      have HRK := HRM.out R[k].l
      obtain ⟨Ay, ny, cy, hyv⟩ : ∃ A n c, R[k].v = .slice A n c := by
        rcases hy.1 with ⟨_, _, h, _⟩ | ⟨b, o, c, h, _⟩
        · exact ⟨_, _, _, h⟩
        · exact ⟨_, _, _, h⟩
      rw [hyv] at e0 HS1 HY
      clear hat hy hyv HA
      revert HRK; revert HSN; revert HTK; revert HB; revert HY; revert HS1; revert e0
      generalize R[k].l = yl
      intro e0 HS1 HY HB HTK HSN HRK
      obtain ⟨z, hz'⟩ : ∃ z, cntR (plainC L) yl = z := ⟨_, rfl⟩
      rw [hz'] at HS1 HRK HSN
      have HZZ := Lib.hid hz'
      clear hz'
      have hb3 := hb.alloc hz (.cells #[.bool false, .slice none 0 0] 80)
      go_wp2_with (go_at_call 55; refine HS1.out.mono ?_; rintro e w3 ⟨m, sl, D, rfl, hd, hn3, hz3, hb3'⟩; obtain ⟨As, cs, rfl, hq2, hQ2⟩ := DigV.open hd.1; clear hq2 hQ2)
      have hlD : D.length ≤ 100 := by have := zlen m D z hn3 hz3 HRK.1 HRK.2; omega
      have hb4 := (hb.trans (hb3'.mono hz)).alloc (hb.trans (hb3'.mono hz)).size (.cells #[.bool m, .slice As D.length cs] 80)
      have hr4 := hb3'.alloc hb3'.size (.cells #[.bool m, .slice As D.length cs] 80)
      have HFI := Lib.hid (fits_any m _ D (w3.alloc (.cells #[.bool m, .slice As D.length cs] 80)) (hd.1.below ((Below.refl _ _).alloc (Nat.le_refl _) _)) hn3 hlD)
      rw [hz3, ← Int.one_mul z] at HFI
      unfold FitPost at HFI
      clear hd hn3 hz3
      by_cases hf : fitsB (1 * z) = true
      · have HFK : Hid (∀ r ∈ (R.take (k + 1)).map (·.l), fitsB (1 * cntR (plainC L) r) = true) := by
          intro r hr
          rw [HTK.out] at hr
          rcases List.mem_append.mp hr with hr | hr
          · exact HFT.out r hr
          · simp only [List.mem_singleton] at hr
            subst hr
            rw [HZZ.out]; exact hf
        rw [hf, if_pos rfl] at HFI
        have hfb : -9223372036854775808 ≤ 1 * z ∧ 1 * z ≤ 9223372036854775807 := by unfold fitsB at hf; rwa [decide_eq_true_eq] at hf
        rw [← HTK.out] at HSN
        clear hf
        obtain ⟨n, hn'⟩ : ∃ n, 1 * z = n := ⟨_, rfl⟩
        rw [hn'] at HFI HSN hfb
        clear hn' HRK
        refine HFI.out.mono ?_
        rintro e w5 ⟨rfl, hb5⟩
        have hr5 := hr4.trans (hb5.mono hr4.size)
        have hbw5 := hb.trans (hr5.mono hz)
        by_cases hn0 : n = 0
        · subst hn0
          rw [if_neg (by simp)] at HSN
          go_wp2_with fail
          go_roundw
          case rel => exact ⟨k + 1, by omega, by go_num, hbw5, HV.out.below hr5, HFK, K, by omega, by rw [HSN.out]; exact HO.out.1, HO.out.2.1.below hr5, HO.out.2.2.below hr5⟩
          case measure => simp [intOf]; omega
        · rw [if_pos hn0] at HSN
          have hnb : (n != 0) = true := by simpa using hn0
          have HCP := Lib.hid (fun W (hW : Below wr.heap.size wr W) => refCopy _ yl W (HY.out.below hW) HB.out.1)
          go_wp2_with (first | (go_at_call 58; refine (HCP.out _ hr5).mono ?_; rintro e w6 ⟨vc, rfl, hoc, hb6⟩; obtain ⟨Ac, nc, cc, hvc⟩ := ownD_shape hoc; subst hvc; have hr6 := hr5.trans (hb6.mono hr5.size); have hbw6 := hb.trans (hr6.mono hz)) | (at_builtin; have HO7 := Lib.hid ((HO.out.2.1.below hr6).alloc (.cells #[.slice Ac nc cc, .int .i64 n] 44)); have HV7 := Lib.hid (valC_at w6 w6.heap.size ⟨.slice Ac nc cc, yl, n⟩ rfl); have hb7 := hbw6.alloc hbw6.size (.cells #[.slice Ac nc cc, .int .i64 n] 44); refine wpList_append_g hkC (by decide) 22 44 i0 _ 32 Try.underlying22 HI.out HZ0.out HZ1.out HZ2.out rfl _ rfl (.tmp 35) (.tmp 40) rfl w.heap.size _ _ K [⟨.slice Ac nc cc, yl, n⟩] rfl rfl HO7.out HV7.out (one_cnt _ _ _ _ _) (by unfold maxLen; simp only [List.length_singleton]; omega) (by simp only [List.length_singleton]; omega) hb7.size ?_; intro v8 w8 ho8 hg8))
          have hb8 := hb7.trans (OwnG.grown HO7.out hb7.size hg8)
          have hr7 := hr6.alloc hr6.size (.cells #[.slice Ac nc cc, .int .i64 n] 44)
          have HV8 := Lib.hid (ownR_kept (HV.out.below hr7) HO7.out hg8)
          have HC8 : Hid (CopyIn w8 w.heap.size (K ++ [⟨.slice Ac nc cc, yl, n⟩])) := by
            intro x hx
            rcases List.mem_append.mp hx with hx | hx
            · exact ((HO.out.2.2 x hx).below hr7).keptC HO7.out hg8
            · simp only [List.mem_singleton] at hx
              subst hx
              exact ((hoc.below ((Below.refl _ _).alloc (Nat.le_refl _) _)).keptC HO7.out hg8).more hbw5.size
          have HP8 : Hid (plainC (K ++ [⟨.slice Ac nc cc, yl, n⟩]) = toldR 1 (plainC L) ((R.take (k + 1)).map (·.l))) := by
            unfold Hid
            rw [HSN.out, plainC_append, HO.out.1]
            rfl
          go_roundw
          case rel => exact ⟨k + 1, by omega, by go_num, hb8, HV8.out, HFK, K ++ [⟨.slice Ac nc cc, yl, n⟩], by rw [List.length_append, List.length_singleton]; omega, HP8.out, ho8, HC8.out⟩
          case measure => simp [intOf]; omega
      · have hff : fitsB (1 * z) = false := by simpa using hf
        rw [hff, if_neg (by decide)] at HFI
        refine HFI.out.mono ?_
        rintro e w5 ⟨rfl, hb5⟩
        have hr5 := hr4.trans (hb5.mono hr4.size)
        have hbw5 := hb.trans (hr5.mono hz)
        go_wp2_with fail
        go_ret2
        exact ⟨hbw5, .inl ⟨⟨yl, by rw [HZZ.out]; exact hff⟩, rfl⟩⟩
    · obtain rfl : k = R.length := by omega
      have HTT : Hid (Tid 1 (plainC L) (plainC K)) := by
        have h1 := HO.out.1
        have h2 := HFT.out
        rw [List.take_length] at h1 h2
        unfold Hid
        rw [h1]
        refine toldR_tid 1 (plainC L) (R.map (·.l)) ?_ HME.out h2
        rw [List.pairwise_map]
        exact HRI.out
      have hKL : K.length ≤ (plainC L).length := by rw [← HPL.out]; omega
      go_wp2_with fail
      go_ret2
      exact ⟨hb, .inr ⟨_, K, rfl, HTT.out, HO.out.2.1, HO.out.2.2, hKL⟩⟩

set_option maxRecDepth 100000 in
set_option maxHeartbeats 4000000 in
theorem refNeg_any (v : Value) (L : List Cnt) (w : World) (hv : CntV w v L) (hr : RowsIn w L) (hN : ∀ y ∈ L, RowB y.l ∧ -9223372036854775808 ≤ y.n ∧ y.n ≤ 9223372036854775807) (hn : L.length ≤ 1000) :
    Calls Try.prog 35 #[v, .bool true] w (RefPost (-1) (plainC L) w) := by
  obtain ⟨i0, hi, hz0, hz1, hz2⟩ := info_parts Try.info44
  have HI := Lib.hid hi
  have HZ0 := Lib.hid hz0
  have HZ1 := Lib.hid hz1
  have HZ2 := Lib.hid hz2
  clear hi hz0 hz1 hz2
  have hb0 := (Below.refl w.heap.size w).alloc (Nat.le_refl _) (Obj.cells #[] 44)
  have HRW := Lib.hid (fun W (hW : Below w.heap.size w W) => rows_any v L W (hv.below hW) (hr.below hW) hn)
  have HSU : Hid (∀ (x : Rw) W, Below w.heap.size w W → RowV W x.v x.l → Calls Try.prog 55 #[v, x.v] W (BigPost (cntR (plainC L) x.l) W)) := fun x W hW hx => sum_any v L x W (hv.below hW) (hr.below hW) hx (fun y hy => (hN y hy).2) hn
  have HRM : Hid (∀ r, -1000000000000000000000000 < cntR (plainC L) r ∧ cntR (plainC L) r < 1000000000000000000000000) := fun r => by
    have h := cnt_room L r L.length hn (fun y hy => (hN y hy).2)
    rwa [List.take_length] at h
  have hinv := rowsR_inv L L.length (Nat.le_refl _)
  have hlen := rowsR_len L L.length (Nat.le_refl _)
  rw [List.take_length] at hinv hlen
  have HRI : Hid (Rise (rowsR L)) := hinv.1
  have HME : Hid (∀ x ∈ plainC L, x.1 ∈ (rowsR L).map (·.l)) := by
    intro x hx
    unfold plainC at hx
    obtain ⟨y, hy, rfl⟩ := List.mem_map.mp hx
    obtain ⟨z, hz, e⟩ := (hinv.2.1 y.l).mpr ⟨y, hy, rfl⟩
    exact List.mem_map.mpr ⟨z, hz, e⟩
  have HRV : Hid (∀ W, Below w.heap.size w W → ∀ y ∈ rowsR L, RowV W y.v y.l ∧ RowB y.l) := by
    intro W hW y hy
    obtain ⟨c, hc, h1, h2⟩ := hinv.2.2 y hy
    rw [h1, h2]
    exact ⟨(hr c hc).below hW, (hN c hc).1⟩
  have HPL : Hid (L.length = (plainC L).length) := by unfold Hid plainC; rw [List.length_map]
  have hR1000 : (rowsR L).length ≤ 1000 := by omega
  clear hinv hv hr hN
  revert hR1000; revert hlen; revert HRV; revert HME; revert HRI; revert HRW
  generalize rowsR L = R
  intro HRW HRI HME HRV hlen hR1000
  go_enter Try.func35, Try.ntmps35
  go_wp2_with (go_at_call 54; refine (HRW.out _ hb0).mono ?_; rintro e w1 ⟨vr, rfl, hrv, hb1⟩; obtain ⟨A, c, rfl⟩ := rw_shape hrv; have HV1 := Lib.hid hrv)
  have hbw1 := hb0.trans (hb1.mono hb0.size)
  have HV2 : Hid (OwnRw w1 w.heap.size (.slice A R.length c) R) := OwnG.more HV1.out hb0.size
  have HO1 : Hid (OwnC w1 w.heap.size (.slice (some ⟨w.heap.size, 0, none⟩) 0 0) []) := (OwnG.lit0 (enc := encC) (k := 2) 44 w w.heap.size (Nat.le_refl _)).below hb1
  clear HV1 hrv
  go_loopw [6, 16] (fun a i wr => ∃ k : Nat, k ≤ R.length ∧ i = .int .i64 k ∧ Below w.heap.size w wr ∧ Hid (OwnRw wr w.heap.size (.slice A R.length c) R) ∧ Hid (∀ r ∈ (R.take k).map (·.l), fitsB ((-1) * cntR (plainC L) r) = true) ∧ ∃ K : List Cnt, K.length ≤ k ∧ Hid (plainC K = toldR (-1) (plainC L) ((R.take k).map (·.l)) ∧ OwnC wr w.heap.size a K ∧ CopyIn wr w.heap.size K)) (fun _ i _ => R.length - (intOf i).toNat)
  case atStart => exact ⟨0, Nat.zero_le _, rfl, hbw1, HV2, by intro r hr; simp at hr, [], Nat.zero_le _, rfl, HO1.out, by intro x hx; simp at hx⟩
  case round =>
    obtain ⟨k, hk, rfl, hb, HV, HFT, K, hK, HO⟩ := hrel
    have hz := hb.size
    by_cases hlt : k < R.length
    · obtain ⟨A', c', e', HA⟩ := RwsV.open (OwnG.val hkR HV.out)
      injection e' with e1' _ e3'
      subst e1' e3'
      obtain ⟨b, off, rfl, hbl, hat⟩ := HA.out.resolve_left (by rintro rfl; simp at hlt)
      have e0 := hat k _ (List.getElem?_eq_getElem hlt)
      have hy := HRV.out wr hb _ (List.getElem_mem hlt)
      have HY := Lib.hid hy.1
      have HB := Lib.hid hy.2
      have HS1 : Hid (Calls Try.prog 55 #[v, R[k].v] wr (BigPost (cntR (plainC L) R[k].l) wr)) := HSU.out R[k] wr hb hy.1
      have HTK : Hid ((R.take (k + 1)).map (·.l) = (R.take k).map (·.l) ++ [R[k].l]) := by
        unfold Hid
        rw [List.take_succ_eq_append_getElem hlt, List.map_append]
        rfl
      have HSN := Lib.hid (toldR_snoc (-1) (plainC L) ((R.take k).map (·.l)) R[k].l)
      have HRK := HRM.out R[k].l
      obtain ⟨Ay, ny, cy, hyv⟩ : ∃ A n c, R[k].v = .slice A n c := by
        rcases hy.1 with ⟨_, _, h, _⟩ | ⟨b, o, c, h, _⟩
        · exact ⟨_, _, _, h⟩
        · exact ⟨_, _, _, h⟩
      rw [hyv] at e0 HS1 HY
      clear hat hy hyv HA
      revert HRK; revert HSN; revert HTK; revert HB; revert HY; revert HS1; revert e0
      generalize R[k].l = yl
      intro e0 HS1 HY HB HTK HSN HRK
      obtain ⟨z, hz'⟩ : ∃ z, cntR (plainC L) yl = z := ⟨_, rfl⟩
      rw [hz'] at HS1 HRK HSN
      have HZZ := Lib.hid hz'
      clear hz'
      have hb3 := hb.alloc hz (.cells #[.bool false, .slice none 0 0] 80)
      go_wp2_with (first | (go_at_call 55; refine HS1.out.mono ?_; rintro e w3 ⟨m, sl, D, rfl, hd, hn3, hz3, hb3'⟩; obtain ⟨As, cs, rfl, hq2, hQ2⟩ := DigV.open hd.1; clear hq2 hQ2) | (go_at_call 56; refine (minus_any m _ D _ (hd.1.below ((Below.refl w3.heap.size w3).alloc (Nat.le_refl _) (.cells #[.bool m, .slice As D.length cs] 80)))).mono ?_; rintro e w4 ⟨rfl, hb4m⟩; have bS := (Blk.new w3 #[.bool m, .slice As D.length cs] 80).below hb4m; have t0 := bS.cell 0; have t1 := bS.cell 1; have f0 := bS.frozen 0; have f1 := bS.frozen 1; simp only [List.getElem?_toArray, List.getElem?_cons_zero, List.getElem?_cons_succ] at t0 t1))
      have hlD : D.length ≤ 100 := by have := zlen m D z hn3 hz3 HRK.1 HRK.2; omega
      have hw3B := ((((Below.refl w3.heap.size w3).alloc (Nat.le_refl _) (.cells #[.bool m, .slice As D.length cs] 80)).trans (hb4m.mono (by simp))).setCell (p := ⟨w3.heap.size, 0, none⟩) (Nat.le_refl _) (.bool (!m && decide (0 < D.length)))).setCell (p := ⟨w3.heap.size, 1, none⟩) (Nat.le_refl _) (.slice As D.length cs)
      have hr4 := hb3'.trans (hw3B.mono hb3'.size)
      have hb4 := hb.trans (hr4.mono hz)
      have HFI := Lib.hid (fits_any (!m && decide (0 < D.length)) _ D _ (hd.1.below hw3B) hn3 hlD)
      rw [zOf_neg, hz3, ← Int.neg_one_mul z] at HFI
      clear bS t0 t1 f0 f1
      unfold FitPost at HFI
      clear hd hn3 hz3
      by_cases hf : fitsB ((-1) * z) = true
      · have HFK : Hid (∀ r ∈ (R.take (k + 1)).map (·.l), fitsB ((-1) * cntR (plainC L) r) = true) := by
          intro r hr
          rw [HTK.out] at hr
          rcases List.mem_append.mp hr with hr | hr
          · exact HFT.out r hr
          · simp only [List.mem_singleton] at hr
            subst hr
            rw [HZZ.out]; exact hf
        rw [hf, if_pos rfl] at HFI
        have hfb : -9223372036854775808 ≤ (-1) * z ∧ (-1) * z ≤ 9223372036854775807 := by unfold fitsB at hf; rwa [decide_eq_true_eq] at hf
        rw [← HTK.out] at HSN
        clear hf
        obtain ⟨n, hn'⟩ : ∃ n, (-1) * z = n := ⟨_, rfl⟩
        rw [hn'] at HFI HSN hfb
        clear hn' HRK
        refine HFI.out.mono ?_
        rintro e w5 ⟨rfl, hb5⟩
        have hr5 := hr4.trans (hb5.mono hr4.size)
        have hbw5 := hb.trans (hr5.mono hz)
        by_cases hn0 : n = 0
        · subst hn0
          rw [if_neg (by simp)] at HSN
          go_wp2_with fail
          go_roundw
          case rel => exact ⟨k + 1, by omega, by go_num, hbw5, HV.out.below hr5, HFK, K, by omega, by rw [HSN.out]; exact HO.out.1, HO.out.2.1.below hr5, HO.out.2.2.below hr5⟩
          case measure => simp [intOf]; omega
        · rw [if_pos hn0] at HSN
          have hnb : (n != 0) = true := by simpa using hn0
          have HCP := Lib.hid (fun W (hW : Below wr.heap.size wr W) => refCopy _ yl W (HY.out.below hW) HB.out.1)
          go_wp2_with (first | (go_at_call 58; refine (HCP.out _ hr5).mono ?_; rintro e w6 ⟨vc, rfl, hoc, hb6⟩; obtain ⟨Ac, nc, cc, hvc⟩ := ownD_shape hoc; subst hvc; have hr6 := hr5.trans (hb6.mono hr5.size); have hbw6 := hb.trans (hr6.mono hz)) | (at_builtin; have HO7 := Lib.hid ((HO.out.2.1.below hr6).alloc (.cells #[.slice Ac nc cc, .int .i64 n] 44)); have HV7 := Lib.hid (valC_at w6 w6.heap.size ⟨.slice Ac nc cc, yl, n⟩ rfl); have hb7 := hbw6.alloc hbw6.size (.cells #[.slice Ac nc cc, .int .i64 n] 44); refine wpList_append_g hkC (by decide) 22 44 i0 _ 32 Try.underlying22 HI.out HZ0.out HZ1.out HZ2.out rfl _ rfl (.tmp 35) (.tmp 40) rfl w.heap.size _ _ K [⟨.slice Ac nc cc, yl, n⟩] rfl rfl HO7.out HV7.out (one_cnt _ _ _ _ _) (by unfold maxLen; simp only [List.length_singleton]; omega) (by simp only [List.length_singleton]; omega) hb7.size ?_; intro v8 w8 ho8 hg8))
          have hb8 := hb7.trans (OwnG.grown HO7.out hb7.size hg8)
          have hr7 := hr6.alloc hr6.size (.cells #[.slice Ac nc cc, .int .i64 n] 44)
          have HV8 := Lib.hid (ownR_kept (HV.out.below hr7) HO7.out hg8)
          have HC8 : Hid (CopyIn w8 w.heap.size (K ++ [⟨.slice Ac nc cc, yl, n⟩])) := by
            intro x hx
            rcases List.mem_append.mp hx with hx | hx
            · exact ((HO.out.2.2 x hx).below hr7).keptC HO7.out hg8
            · simp only [List.mem_singleton] at hx
              subst hx
              exact ((hoc.below ((Below.refl _ _).alloc (Nat.le_refl _) _)).keptC HO7.out hg8).more hbw5.size
          have HP8 : Hid (plainC (K ++ [⟨.slice Ac nc cc, yl, n⟩]) = toldR (-1) (plainC L) ((R.take (k + 1)).map (·.l))) := by
            unfold Hid
            rw [HSN.out, plainC_append, HO.out.1]
            rfl
          go_roundw
          case rel => exact ⟨k + 1, by omega, by go_num, hb8, HV8.out, HFK, K ++ [⟨.slice Ac nc cc, yl, n⟩], by rw [List.length_append, List.length_singleton]; omega, HP8.out, ho8, HC8.out⟩
          case measure => simp [intOf]; omega
      · have hff : fitsB ((-1) * z) = false := by simpa using hf
        rw [hff, if_neg (by decide)] at HFI
        refine HFI.out.mono ?_
        rintro e w5 ⟨rfl, hb5⟩
        have hr5 := hr4.trans (hb5.mono hr4.size)
        have hbw5 := hb.trans (hr5.mono hz)
        go_wp2_with fail
        go_ret2
        exact ⟨hbw5, .inl ⟨⟨yl, by rw [HZZ.out]; exact hff⟩, rfl⟩⟩
    · obtain rfl : k = R.length := by omega
      have HTT : Hid (Tid (-1) (plainC L) (plainC K)) := by
        have h1 := HO.out.1
        have h2 := HFT.out
        rw [List.take_length] at h1 h2
        unfold Hid
        rw [h1]
        refine toldR_tid (-1) (plainC L) (R.map (·.l)) ?_ HME.out h2
        rw [List.pairwise_map]
        exact HRI.out
      have hKL : K.length ≤ (plainC L).length := by rw [← HPL.out]; omega
      go_wp2_with fail
      go_ret2
      exact ⟨hb, .inr ⟨_, K, rfl, HTT.out, HO.out.2.1, HO.out.2.2, hKL⟩⟩

end Go.Proofs.Ytciijaejldfcaaa
