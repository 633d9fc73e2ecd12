/-
  The contracts of zset's Settle and At, and of the reference's LikeUpdates.
-/
import Derived.Test.YtciijaejldfcaaaSumsU
import Derived.Test.YtciijaejldfcaaaLawQ
namespace Go.Proofs.Ytciijaejldfcaaa.Up
open Go.RowKit

/-- What is asked of updates that come in. -/
def UpdIns (w : World) (v : Value) (L : List Cnt) : Prop := CntV w v L ∧ RowsIn w L ∧ (∀ x ∈ L, RowB x.l.2 ∧ -9223372036854775808 ≤ x.n ∧ x.n ≤ 9223372036854775807) ∧ L.length ≤ 1000000
theorem UpdIns.below {w w' : World} {v : Value} {L : List Cnt} (h : UpdIns w v L) (hb : Below w.heap.size w w') : UpdIns w' v L := ⟨h.1.below hb, h.2.1.below hb, h.2.2⟩

theorem shp_of {w : World} {L : List Cnt} (h : RowsIn w L) : ∀ x ∈ L, ∃ A n c, x.v = .slice A n c := by
  intro x hx
  rcases h x hx with ⟨_, _, e, _⟩ | ⟨b, o, c, e, _⟩
  · exact ⟨_, _, _, e⟩
  · exact ⟨_, _, _, e⟩

theorem settle_any (v : Value) (L : List Cnt) (w : World) (h : UpdIns w v L) : Calls Try.prog 21 #[v] w (TidPost 1 (plainC L) w) := by
  have HS := Lib.hid (sumsU_any 1 (.inl rfl) v L w h.1 h.2.1 h.2.2.1 h.2.2.2 (fun W hW x hx => count_any x.v x.l.1 x.n W (shp_of h.2.1 x hx) (h.2.2.1 x hx).2))
  clear h
  go_enter Try.func21, Try.ntmps21
  go_wp2_with (go_at_call 47; refine HS.out.mono ?_; rintro e w' hp; have hq := Lib.hid hp; rcases hp with ⟨hb, ⟨hn, rfl⟩ | ⟨v', K, rfl, hr⟩⟩)
  all_goals
    go_ret2
    exact hq.out

/-- A settled list comes back in new memory. -/
def TidOk (sg : Int) (P : List CRow) (w : World) (e : Ending) (w' : World) : Prop :=
  ∃ v' K, e = .returned (.tuple #[v', .int .i64 0]) ∧ Below w.heap.size w w' ∧ Tid sg P (plainC K) ∧ OwnC w' w.heap.size v' K ∧ FreshIn w' w.heap.size K ∧ K.length ≤ P.length

theorem settle_ok (v : Value) (L : List Cnt) (w : World) (h : UpdIns w v L) (hf : ∀ r, fitsB (1 * cntR (plainC L) r) = true) : Calls Try.prog 21 #[v] w (TidOk 1 (plainC L) w) := by
  refine (settle_any v L w h).mono ?_
  rintro e w' ⟨hb, ⟨⟨r, hr⟩, _⟩ | ⟨v', K, he, ht, ho, hfr, hl⟩⟩
  · rw [hf r] at hr; cases hr
  · exact ⟨v', K, he, hb, ht, ho, hfr, hl⟩

theorem tid_rows {sg : Int} {P T : List CRow} (h : Tid sg P T) (x : CRow) (hx : x ∈ T) : ∃ y ∈ P, y.1 = x.1 := by
  have h1 := asc_cnt T h.asc x hx
  rw [h.cnt] at h1
  have h2 := (h.nz x hx).1
  have h3 : cntR P x.1 ≠ 0 := by intro e; rw [e] at h1; omega
  obtain ⟨y, hy, hyx⟩ := cntR_some P x.1 h3
  exact ⟨y, hy, cmpK_eq _ _ hyx⟩

theorem tid_ins {sg : Int} {P : List CRow} {K : List Cnt} {w : World} {base : Nat} {v : Value} (ht : Tid sg P (plainC K)) (ho : OwnC w base v K) (hf : FreshIn w base K) (hP : ∀ y ∈ P, RowB y.1.2) (hl : K.length ≤ 1000000) : UpdIns w v K := by
  have hB : ∀ x ∈ K, RowB x.l.2 := by
    intro x hx
    obtain ⟨y, hy, e⟩ := tid_rows ht (x.l, x.n) (List.mem_map.mpr ⟨x, hx, rfl⟩)
    have : y.1 = x.l := e
    rw [← this]; exact hP y hy
  refine ⟨ho.val hkC, ?_, ?_, hl⟩
  · intro x hx
    refine (hf x hx).row ?_
    have := (hB x hx).1
    unfold maxLen; omega
  · intro x hx
    have h2 := (ht.nz (x.l, x.n) (List.mem_map.mpr ⟨x, hx, rfl⟩)).2
    unfold fitsB at h2
    rw [decide_eq_true_eq] at h2
    exact ⟨hB x hx, h2⟩

theorem OwnC.shp {w : World} {base : Nat} {v : Value} {K : List Cnt} (h : OwnC w base v K) : ∃ A c, v = .slice A K.length c := by
  rcases OwnG.shape h with ⟨rfl, rfl⟩ | ⟨g, cap, rfl, _⟩
  · exact ⟨_, _, rfl⟩
  · exact ⟨_, _, rfl⟩

/-- What is there at a time. -/
def atC (L : List Cnt) (t : Int) : List Ytciijaejldfcaaa.Cnt := (L.filter fun x => decide (x.l.1 ≤ t)).map fun x => ⟨x.v, x.l.2, x.n⟩

theorem atC_take (L : List Cnt) (t : Int) (k : Nat) (h : k < L.length) : atC (L.take (k + 1)) t = if L[k].l.1 ≤ t then atC (L.take k) t ++ [⟨L[k].v, L[k].l.2, L[k].n⟩] else atC (L.take k) t := by
  unfold atC
  rw [List.take_succ_eq_append_getElem h, List.filter_append]
  by_cases ht : L[k].l.1 ≤ t
  · rw [if_pos ht, List.filter_cons_of_pos (by simpa using ht), List.filter_nil, List.map_append]; rfl
  · rw [if_neg ht, List.filter_cons_of_neg (by simpa using ht), List.filter_nil, List.append_nil]
theorem atC_len (L : List Cnt) (t : Int) : (atC L t).length ≤ L.length := by unfold atC; rw [List.length_map]; exact List.length_filter_le _ _
theorem atC_mem {L : List Cnt} {t : Int} {x : Ytciijaejldfcaaa.Cnt} (h : x ∈ atC L t) : ∃ y ∈ L, x.v = y.v ∧ x.l = y.l.2 ∧ x.n = y.n := by
  unfold atC at h
  obtain ⟨y, hy, rfl⟩ := List.mem_map.mp h
  exact ⟨y, (List.mem_filter.mp hy).1, rfl, rfl, rfl⟩

set_option maxRecDepth 100000 in
set_option maxHeartbeats 4000000 in
theorem at_ok (v : Value) (L : List Cnt) (t : Int) (w : World) (h : UpdIns w v L) (hf : ∀ r, fitsB (1 * Ytciijaejldfcaaa.cntR (Ytciijaejldfcaaa.plainC (atC L t)) r) = true) : Calls Try.prog 23 #[v, .int .i64 t] w (Ytciijaejldfcaaa.TidOk 1 (Ytciijaejldfcaaa.plainC (atC L t)) w) := by
  obtain ⟨i0, hi, hz0, hz1, hz2⟩ := info_parts Try.info44
  have HI := Lib.hid hi
  have HZ0 := Lib.hid hz0
  have HZ1 := Lib.hid hz1
  have HZ2 := Lib.hid hz2
  have HR := Lib.hid h.2.1
  have HB := Lib.hid h.2.2.1
  have HL : L.length ≤ 1000000 := h.2.2.2
  have HF := Lib.hid hf
  obtain ⟨A, c, rfl, HA⟩ : ∃ A c, v = .slice A L.length c ∧ Hid (L = [] ∨ ∃ b off, A = some ⟨b, off, none⟩ ∧ b < w.heap.size ∧ AtG encC 3 w b off L) := by
    rcases h.1 with ⟨rfl, rfl⟩ | ⟨b, off, cap, rfl, _, hb, hat, _⟩
    · exact ⟨none, 0, rfl, .inl rfl⟩
    · exact ⟨_, _, rfl, .inr ⟨b, off, rfl, hb, hat⟩⟩
  clear h hi hz0 hz1 hz2 hf
  go_enter Try.func23, Try.ntmps23
  go_wp2_with fail
  go_loopw [6, 11] (fun a i wr => ∃ k : Nat, k ≤ L.length ∧ i = .int .i64 k ∧ Below w.heap.size w wr ∧ Hid (Ytciijaejldfcaaa.OwnC wr w.heap.size a (atC (L.take k) t))) (fun _ i _ => L.length - (intOf i).toNat)
  case atStart => exact ⟨0, Nat.zero_le _, rfl, Below.refl _ _, OwnG.nil 44 _ _⟩
  case round =>
    obtain ⟨k, hk, rfl, hb, HO⟩ := hrel
    have hz := hb.size
    by_cases hlt : k < L.length
    · obtain ⟨b, off, rfl, hbl, hat⟩ := HA.out.resolve_left (by rintro rfl; simp at hlt)
      have HX := Lib.hid (atC_take L t k hlt)
      obtain ⟨x, hx⟩ : ∃ x, L[k] = x := ⟨_, rfl⟩
      have e0 := hat k x (by rw [← hx]; exact List.getElem?_eq_getElem hlt) 0 _ rfl
      have e1 := hat k x (by rw [← hx]; exact List.getElem?_eq_getElem hlt) 1 _ rfl
      have e2 := hat k x (by rw [← hx]; exact List.getElem?_eq_getElem hlt) 2 _ rfl
      rw [Nat.add_zero] at e0
      have c0 := (hb.cell (p := ⟨b, off + k * 3, none⟩) hbl).trans e0
      have c1 := (hb.cell (p := ⟨b, off + k * 3 + 1, none⟩) hbl).trans e1
      have c2 := (hb.cell (p := ⟨b, off + k * 3 + 2, none⟩) hbl).trans e2
      rw [hx] at HX
      obtain ⟨Ax, nx, cx, hxv⟩ := shp_of HR.out x (by rw [← hx]; exact List.getElem_mem hlt)
      clear hat e0 e1 e2 hx
      obtain ⟨xv, ⟨xt, xr⟩, xn⟩ := x
      subst hxv
      simp only at c0 c1 c2 HX
      have hml : (atC (L.take k) t).length + 1 ≤ 1000001 := by
        have h1 := atC_len (L.take k) t
        rw [List.length_take] at h1
        omega
      by_cases ht : xt ≤ t
      · rw [if_pos ht] at HX
        go_wp2_with (at_builtin; have hb7 := (hb.alloc hz (.cells #[.slice Ax nx cx, .int .i64 xt, .int .i64 xn] 48)).alloc (by simp; omega) (.cells #[.slice Ax nx cx, .int .i64 xn] 44); have HO7 := Lib.hid ((HO.out.alloc (.cells #[.slice Ax nx cx, .int .i64 xt, .int .i64 xn] 48)).alloc (.cells #[.slice Ax nx cx, .int .i64 xn] 44)); have HV7 := Lib.hid (valC_at (wr.alloc (.cells #[.slice Ax nx cx, .int .i64 xt, .int .i64 xn] 48)) (wr.heap.size + 1) ⟨.slice Ax nx cx, xr, xn⟩ (by simp)); refine wpList_append_g Ytciijaejldfcaaa.hkC (by decide) 22 44 i0 _ 32 Try.underlying22 HI.out HZ0.out HZ1.out HZ2.out rfl _ rfl (.tmp 19) (.tmp 25) rfl w.heap.size _ _ (atC (L.take k) t) [⟨.slice Ax nx cx, xr, xn⟩] rfl rfl HO7.out HV7.out (by intro x hx u hu; simp only [List.mem_singleton] at hx; subst hx; simp [Ytciijaejldfcaaa.encC] at hu; rcases hu with rfl | rfl <;> rfl) (by unfold maxLen; simp only [List.length_singleton]; omega) (by simp only [List.length_singleton]; omega) (by simp; omega) ?_; intro v8 w8 ho8 hg8)
        have hb8 := hb7.trans (OwnG.grown HO7.out (by simp; omega) hg8)
        go_roundw
        case rel => exact ⟨k + 1, by omega, by go_num, hb8, by rw [HX.out]; exact ho8⟩
        case measure => simp [intOf]; omega
      · rw [if_neg ht] at HX
        have hb7 := hb.alloc hz (.cells #[.slice Ax nx cx, .int .i64 xt, .int .i64 xn] 48)
        have HO7 := Lib.hid (HO.out.alloc (.cells #[.slice Ax nx cx, .int .i64 xt, .int .i64 xn] 48))
        go_wp2
        go_roundw
        case rel => exact ⟨k + 1, by omega, by go_num, hb7, by rw [HX.out]; exact HO7.out⟩
        case measure => simp [intOf]; omega
    · obtain rfl : k = L.length := by omega
      have HT : Hid (Calls Try.prog 11 #[u6] wr (Ytciijaejldfcaaa.TidOk 1 (Ytciijaejldfcaaa.plainC (atC L t)) wr)) := by
        have ho := HO.out
        rw [List.take_length] at ho
        refine tidy_ok u6 (atC L t) wr ⟨ho.val Ytciijaejldfcaaa.hkC, ?_, ?_, Nat.le_trans (atC_len L t) HL⟩ HF.out
        · intro x hx
          obtain ⟨y, hy, h1, h2, h3⟩ := atC_mem hx
          rw [h1, h2]
          exact (HR.out y hy).below hb
        · intro x hx
          obtain ⟨y, hy, h1, h2, h3⟩ := atC_mem hx
          rw [h2, h3]
          exact HB.out y hy
      clear HO HF
      go_wp2_with (go_at_call 11; refine HT.out.mono ?_; rintro e w1 ⟨v', K, rfl, hb1, ht, ho, hfr, hl⟩)
      go_ret2
      exact ⟨v', K, rfl, hb.trans (hb1.mono hz), ht, ho.more hz, hfr.more hz, hl⟩

theorem plain_get {K1 K2 : List Cnt} (he : plainC K1 = plainC K2) (k : Nat) (h1 : k < K1.length) (h2 : k < K2.length) : K1[k].l = K2[k].l ∧ K1[k].n = K2[k].n := by
  have h := congrArg (fun l => l[k]?) he
  simp only [plainC, List.getElem?_map, List.getElem?_eq_getElem h1, List.getElem?_eq_getElem h2, Option.map_some, Option.some.injEq, Prod.mk.injEq] at h
  exact h
theorem plain_len {K1 K2 : List Cnt} (he : plainC K1 = plainC K2) : K1.length = K2.length := by
  have := congrArg List.length he
  simpa [plainC] using this

set_option maxRecDepth 100000 in
set_option maxHeartbeats 4000000 in
theorem like_any (v1 v2 : Value) (K1 K2 : List Cnt) (w : World) (h1 : CntV w v1 K1) (h2 : CntV w v2 K2) (r1 : RowsIn w K1) (r2 : RowsIn w K2) (he : plainC K1 = plainC K2) (hl : K1.length ≤ 1000000) :
    Calls Try.prog 27 #[v1, v2] w (BoolB true w) := by
  have hlen := plain_len he
  have HE := Lib.hid he
  have R1 := Lib.hid r1
  have R2 := Lib.hid r2
  clear he r1 r2
  obtain ⟨A1, c1, rfl, HA1⟩ : ∃ A c, v1 = .slice A K1.length c ∧ Hid (K1 = [] ∨ ∃ b off, A = some ⟨b, off, none⟩ ∧ b < w.heap.size ∧ AtG encC 3 w b off K1) := by
    rcases h1 with ⟨rfl, rfl⟩ | ⟨b, off, cap, rfl, _, hb, hat, _⟩
    · exact ⟨none, 0, rfl, .inl rfl⟩
    · exact ⟨_, _, rfl, .inr ⟨b, off, rfl, hb, hat⟩⟩
  obtain ⟨A2, c2, rfl, HA2⟩ : ∃ A c, v2 = .slice A K1.length c ∧ Hid (K2 = [] ∨ ∃ b off, A = some ⟨b, off, none⟩ ∧ b < w.heap.size ∧ AtG encC 3 w b off K2) := by
    rw [hlen]
    rcases h2 with ⟨rfl, rfl⟩ | ⟨b, off, cap, rfl, _, hb, hat, _⟩
    · exact ⟨none, 0, rfl, .inl rfl⟩
    · exact ⟨_, _, rfl, .inr ⟨b, off, rfl, hb, hat⟩⟩
  have HL := Lib.hid hlen
  clear h1 h2 hlen
  go_enter Try.func27, Try.ntmps27
  go_wp2_with fail
  go_loopw [13] (fun i wr => ∃ k : Nat, k ≤ K1.length ∧ i = .int .i64 k ∧ Below w.heap.size w wr) (fun i _ => K1.length - (intOf i).toNat)
  case atStart => exact ⟨0, Nat.zero_le _, rfl, Below.refl _ _⟩
  case round =>
    obtain ⟨k, hk, rfl, hb⟩ := hrel
    have hz := hb.size
    by_cases hlt : k < K1.length
    · have hlt2 : k < K2.length := by rw [← HL.out]; exact hlt
      obtain ⟨b1, o1, rfl, hb1, hat1⟩ := HA1.out.resolve_left (by rintro rfl; simp at hlt)
      obtain ⟨b2, o2, rfl, hb2, hat2⟩ := HA2.out.resolve_left (by rintro rfl; simp at hlt2)
      obtain ⟨e1, e2⟩ := plain_get HE.out k hlt hlt2
      have a0 := (hb.cell (p := ⟨b1, o1 + k * 3 + 0, none⟩) hb1).trans (hat1 k _ (List.getElem?_eq_getElem hlt) 0 _ rfl)
      have a1 := (hb.cell (p := ⟨b1, o1 + k * 3 + 1, none⟩) hb1).trans (hat1 k _ (List.getElem?_eq_getElem hlt) 1 _ rfl)
      have a4 := (hb.cell (p := ⟨b1, o1 + k * 3 + 2, none⟩) hb1).trans (hat1 k _ (List.getElem?_eq_getElem hlt) 2 _ rfl)
      have a2 := (hb.cell (p := ⟨b2, o2 + k * 3 + 0, none⟩) hb2).trans (hat2 k _ (List.getElem?_eq_getElem hlt2) 0 _ rfl)
      have a3 := (hb.cell (p := ⟨b2, o2 + k * 3 + 1, none⟩) hb2).trans (hat2 k _ (List.getElem?_eq_getElem hlt2) 1 _ rfl)
      have a5 := (hb.cell (p := ⟨b2, o2 + k * 3 + 2, none⟩) hb2).trans (hat2 k _ (List.getElem?_eq_getElem hlt2) 2 _ rfl)
      rw [Nat.add_zero] at a0 a2
      rw [← e1] at a3
      rw [← e2] at a5
      have HSM : Hid (∀ n : Kept wr, Calls Try.prog 31 #[K1[k].v, K2[k].v] n.w fun e w' => e = .returned (.bool true) ∧ Below n.w.heap.size n.w w') := fun n => by
        have hbn := hb.trans (n.h.mono hz)
        have := refSame_any K1[k].v K2[k].v K1[k].l.2 K2[k].l.2 n.w ((R1.out _ (List.getElem_mem hlt)).below hbn) ((R2.out _ (List.getElem_mem hlt2)).below hbn)
        rw [e1, cmpR_self] at this
        exact this.mono fun _ _ h => ⟨h.1, h.2.toBelow⟩
      clear hat1 hat2 e1 e2
      revert a0 a1 a2 a3 a4 a5 HSM
      generalize K1[k].v = x1
      generalize K2[k].v = x2
      generalize K1[k].n = n1
      generalize K1[k].l.1 = t1
      intro a0 a1 a4 a2 a3 a5 HSM
      have k0 := fun n : Kept wr => n.cell a0
      have k1 := fun n : Kept wr => n.cell a1
      have k2 := fun n : Kept wr => n.cell a2
      have k3 := fun n : Kept wr => n.cell a3
      have k4 := fun n : Kept wr => n.cell a4
      have k5 := fun n : Kept wr => n.cell a5
      go_wp2_with fail
      refine wp_region_kept (by kernel_rfl) (by kernel_rfl) ?_
      repeat (go_big_quiet_step ((go_at_call 31; exact Calls.kept (HSM.out _))))
      refine wpQuiet_nil ?_
      intro wk hw'
      obtain ⟨⟨wk2, hwk⟩, hw''⟩ := hw'
      simp only at hw''
      subst hw''
      go_wp2
      go_roundw
      case rel => exact ⟨k + 1, by omega, by go_num, hb.trans (hwk.mono hz)⟩
      case measure => simp [intOf]; omega
    · obtain rfl : k = K1.length := by omega
      go_wp2
      go_ret
      exact ⟨rfl, hb⟩

end Go.Proofs.Ytciijaejldfcaaa.Up
