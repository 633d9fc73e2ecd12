/-
  zset's At and Later, with or without room.
-/
import Derived.Test.YtciijaejldfcaaaLater
namespace Go.Proofs.Ytciijaejldfcaaa.Up
open Go.RowKit

theorem TidPost.up {sg : Int} {P : List CRow} {w wr : World} {e : Ending} {w' : World} (h : TidPost sg P wr e w') (hb : Below w.heap.size w wr) : TidPost sg P w e w' := by
  obtain ⟨hb1, h⟩ := h
  refine ⟨hb.trans (hb1.mono hb.size), ?_⟩
  rcases h with h | ⟨v', K, he, ht, ho, hfr, hl⟩
  · exact .inl h
  · exact .inr ⟨v', K, he, ht, OwnG.more ho hb.size, hfr.more hb.size, hl⟩

set_option maxRecDepth 100000 in
set_option maxHeartbeats 4000000 in
theorem at_any (v : Value) (L : List Cnt) (t : Int) (w : World) (h : UpdIns w v L) : Calls Try.prog 23 #[v, .int .i64 t] w (Ytciijaejldfcaaa.TidPost 1 (Ytciijaejldfcaaa.plainC (atC L t)) w) := by
  obtain ⟨i0, hi, hz0, hz1, hz2⟩ := info_parts Try.info44
  have HI := Lib.hid hi
  have HZ0 := Lib.hid hz0
  have HZ1 := Lib.hid hz1
  have HZ2 := Lib.hid hz2
  have HR := Lib.hid h.2.1
  have HB := Lib.hid h.2.2.1
  have HL : L.length ≤ 1000000 := h.2.2.2
  obtain ⟨A, c, rfl, HA⟩ : ∃ A c, v = .slice A L.length c ∧ Hid (L = [] ∨ ∃ b off, A = some ⟨b, off, none⟩ ∧ b < w.heap.size ∧ AtG encC 3 w b off L) := by
    rcases h.1 with ⟨rfl, rfl⟩ | ⟨b, off, cap, rfl, _, hb, hat, _⟩
    · exact ⟨none, 0, rfl, .inl rfl⟩
    · exact ⟨_, _, rfl, .inr ⟨b, off, rfl, hb, hat⟩⟩
  clear h hi hz0 hz1 hz2
  go_enter Try.func23, Try.ntmps23
  go_wp2_with fail
  go_loopw [6, 11] (fun a i wr => ∃ k : Nat, k ≤ L.length ∧ i = .int .i64 k ∧ Below w.heap.size w wr ∧ Hid (Ytciijaejldfcaaa.OwnC wr w.heap.size a (atC (L.take k) t))) (fun _ i _ => L.length - (intOf i).toNat)
  case atStart => exact ⟨0, Nat.zero_le _, rfl, Below.refl _ _, OwnG.nil 44 _ _⟩
  case round =>
    obtain ⟨k, hk, rfl, hb, HO⟩ := hrel
    have hz := hb.size
    by_cases hlt : k < L.length
    · obtain ⟨b, off, rfl, hbl, hat⟩ := HA.out.resolve_left (by rintro rfl; simp at hlt)
      have HX := Lib.hid (atC_take L t k hlt)
      obtain ⟨x, hx⟩ : ∃ x, L[k] = x := ⟨_, rfl⟩
      have e0 := hat k x (by rw [← hx]; exact List.getElem?_eq_getElem hlt) 0 _ rfl
      have e1 := hat k x (by rw [← hx]; exact List.getElem?_eq_getElem hlt) 1 _ rfl
      have e2 := hat k x (by rw [← hx]; exact List.getElem?_eq_getElem hlt) 2 _ rfl
      rw [Nat.add_zero] at e0
      have c0 := (hb.cell (p := ⟨b, off + k * 3, none⟩) hbl).trans e0
      have c1 := (hb.cell (p := ⟨b, off + k * 3 + 1, none⟩) hbl).trans e1
      have c2 := (hb.cell (p := ⟨b, off + k * 3 + 2, none⟩) hbl).trans e2
      rw [hx] at HX
      obtain ⟨Ax, nx, cx, hxv⟩ := shp_of HR.out x (by rw [← hx]; exact List.getElem_mem hlt)
      clear hat e0 e1 e2 hx
      obtain ⟨xv, ⟨xt, xr⟩, xn⟩ := x
      subst hxv
      simp only at c0 c1 c2 HX
      have hml : (atC (L.take k) t).length + 1 ≤ 1000001 := by
        have h1 := atC_len (L.take k) t
        rw [List.length_take] at h1
        omega
      by_cases ht : xt ≤ t
      · rw [if_pos ht] at HX
        go_wp2_with (at_builtin; have hb7 := (hb.alloc hz (.cells #[.slice Ax nx cx, .int .i64 xt, .int .i64 xn] 48)).alloc (by simp; omega) (.cells #[.slice Ax nx cx, .int .i64 xn] 44); have HO7 := Lib.hid ((HO.out.alloc (.cells #[.slice Ax nx cx, .int .i64 xt, .int .i64 xn] 48)).alloc (.cells #[.slice Ax nx cx, .int .i64 xn] 44)); have HV7 := Lib.hid (valC_at (wr.alloc (.cells #[.slice Ax nx cx, .int .i64 xt, .int .i64 xn] 48)) (wr.heap.size + 1) ⟨.slice Ax nx cx, xr, xn⟩ (by simp)); refine wpList_append_g Ytciijaejldfcaaa.hkC (by decide) 22 44 i0 _ 32 Try.underlying22 HI.out HZ0.out HZ1.out HZ2.out rfl _ rfl (.tmp 19) (.tmp 25) rfl w.heap.size _ _ (atC (L.take k) t) [⟨.slice Ax nx cx, xr, xn⟩] rfl rfl HO7.out HV7.out (by intro x hx u hu; simp only [List.mem_singleton] at hx; subst hx; simp [Ytciijaejldfcaaa.encC] at hu; rcases hu with rfl | rfl <;> rfl) (by unfold maxLen; simp only [List.length_singleton]; omega) (by simp only [List.length_singleton]; omega) (by simp; omega) ?_; intro v8 w8 ho8 hg8)
        have hb8 := hb7.trans (OwnG.grown HO7.out (by simp; omega) hg8)
        go_roundw
        case rel => exact ⟨k + 1, by omega, by go_num, hb8, by rw [HX.out]; exact ho8⟩
        case measure => simp [intOf]; omega
      · rw [if_neg ht] at HX
        have hb7 := hb.alloc hz (.cells #[.slice Ax nx cx, .int .i64 xt, .int .i64 xn] 48)
        have HO7 := Lib.hid (HO.out.alloc (.cells #[.slice Ax nx cx, .int .i64 xt, .int .i64 xn] 48))
        go_wp2
        go_roundw
        case rel => exact ⟨k + 1, by omega, by go_num, hb7, by rw [HX.out]; exact HO7.out⟩
        case measure => simp [intOf]; omega
    · obtain rfl : k = L.length := by omega
      have HT : Hid (Calls Try.prog 11 #[u6] wr (Ytciijaejldfcaaa.TidPost 1 (Ytciijaejldfcaaa.plainC (atC L t)) wr)) := by
        have ho := HO.out
        rw [List.take_length] at ho
        refine tidy_any u6 (atC L t) wr ⟨ho.val Ytciijaejldfcaaa.hkC, ?_, ?_, Nat.le_trans (atC_len L t) HL⟩
        · intro x hx
          obtain ⟨y, hy, h1, h2, h3⟩ := atC_mem hx
          rw [h1, h2]
          exact (HR.out y hy).below hb
        · intro x hx
          obtain ⟨y, hy, h1, h2, h3⟩ := atC_mem hx
          rw [h2, h3]
          exact HB.out y hy
      clear HO
      go_wp2_with (go_at_call 11; refine HT.out.mono ?_; rintro e w1 hp; have hq := Lib.hid (hp.up hb); rcases hp with ⟨hb1, ⟨hn, rfl⟩ | ⟨v', K, rfl, hr⟩⟩)
      all_goals
        go_ret2
        exact hq.out

set_option maxRecDepth 100000 in
set_option maxHeartbeats 8000000 in
theorem later_any (v : Value) (L : List Cnt) (t : Int) (w : World) (h : UpdIns w v L) : Calls Try.prog 25 #[v, .int .i64 t] w (TidPost 1 (plainC (L.map (laterU t))) w) := by
  obtain ⟨j0, hj, hy0, hy1, hy2⟩ := info_parts info48
  have HR := Lib.hid h.2.1
  have HB := Lib.hid h.2.2.1
  have HL : L.length ≤ 1000000 := h.2.2.2
  obtain ⟨A, c, rfl, HA⟩ : ∃ A c, v = .slice A L.length c ∧ Hid (L = [] ∨ ∃ b off, A = some ⟨b, off, none⟩ ∧ b < w.heap.size ∧ AtG encC 3 w b off L) := by
    rcases h.1 with ⟨rfl, rfl⟩ | ⟨b, off, cap, rfl, _, hb, hat, _⟩
    · exact ⟨none, 0, rfl, .inl rfl⟩
    · exact ⟨_, _, rfl, .inr ⟨b, off, rfl, hb, hat⟩⟩
  clear h
  have hM : (L.map (laterU t)).length = L.length := List.length_map _
  go_enter Try.func25, Try.ntmps25
  go_wp2_with (at_make; refine wpList_make_full _ rfl _ _ 30 rfl w.heap.size 48 j0 _ 3 Try.underlying30 hj hy0 hy1 .i64 .i64 _ _ L.length rfl rfl rfl rfl (by rw [hy2]; omega) (by unfold maxLen; omega) (Nat.le_refl _) ?_; intro w1 hown hg)
  rw [made_zeroU] at hown
  have hb1 : Below w.heap.size w w1 := (Below.refl _ w).grown hg (Nat.le_refl _) (by simp)
  have ho1 : Hid (OwnC w1 w.heap.size (.slice (some ⟨w.heap.size, 0, none⟩) L.length L.length) (partU (L.map (laterU t)) 0)) := by
    unfold Hid OwnC OwnG partU
    simpa using hown
  clear hown hg hj hy0 hy1 hy2
  go_loopw [14] (fun i wr => ∃ k : Nat, k ≤ L.length ∧ i = .int .i64 k ∧ Below w.heap.size w wr ∧ Hid (OwnC wr w.heap.size (.slice (some ⟨w.heap.size, 0, none⟩) L.length L.length) (partU (L.map (laterU t)) k))) (fun i _ => L.length - (intOf i).toNat)
  case atStart => exact ⟨0, by omega, rfl, hb1, ho1⟩
  case round =>
    obtain ⟨k, hk, rfl, hb, HO⟩ := hrel
    have hz := hb.size
    by_cases hlt : k < L.length
    · obtain ⟨b, off, rfl, hbl, hat⟩ := HA.out.resolve_left (by rintro rfl; simp at hlt)
      have hMk : k < (L.map (laterU t)).length := by omega
      have HX : Hid ((partU (L.map (laterU t)) k).set k (laterU t L[k]) = partU (L.map (laterU t)) (k + 1)) := by
        have := partU_set (L.map (laterU t)) k hMk
        rw [List.getElem_map] at this
        exact this
      obtain ⟨x, hx⟩ : ∃ x, L[k] = x := ⟨_, rfl⟩
      have e0 := hat k x (by rw [← hx]; exact List.getElem?_eq_getElem hlt) 0 _ rfl
      have e1 := hat k x (by rw [← hx]; exact List.getElem?_eq_getElem hlt) 1 _ rfl
      have e2 := hat k x (by rw [← hx]; exact List.getElem?_eq_getElem hlt) 2 _ rfl
      rw [Nat.add_zero] at e0
      have c0 := (hb.cell (p := ⟨b, off + k * 3, none⟩) hbl).trans e0
      have c1 := (hb.cell (p := ⟨b, off + k * 3 + 1, none⟩) hbl).trans e1
      have c2 := (hb.cell (p := ⟨b, off + k * 3 + 2, none⟩) hbl).trans e2
      rw [hx] at HX
      obtain ⟨Ax, nx, cx, hxv⟩ := shp_of HR.out x (by rw [← hx]; exact List.getElem_mem hlt)
      have hpl := partU_len (L.map (laterU t)) k (by omega)
      have hgl : w.heap.size < wr.heap.size := (HO.out.lt w.heap.size rfl).2
      have hzr : AtG encC 3 wr w.heap.size 0 (partU (L.map (laterU t)) k) := by
        rcases HO.out.val hkC with ⟨e, _⟩ | ⟨b', off', cap', e, _, _, hr, _⟩
        · cases e
        · injection e with e4 e5 e6
          injection e4 with e4
          injection e4 with e7 e8
          subst e7 e8
          exact hr
      have z0 := hzr k zeroU (partU_get _ _ hMk) 0 _ rfl
      have z1 := hzr k zeroU (partU_get _ _ hMk) 1 _ rfl
      have z2 := hzr k zeroU (partU_get _ _ hMk) 2 _ rfl
      simp only [Nat.zero_add, Nat.add_zero, zeroU] at z0 z1 z2
      have hfr : ∀ j, wr.frozen? ⟨w.heap.size, j, none⟩ = false := fun j => by
        have ho' := HO.out
        unfold OwnC OwnG at ho'
        rw [hpl] at ho'
        exact World.ownsRow.frozenAt (by rw [hM] at ho'; exact ho') j
      have f0 := hfr (k * 3)
      have f1 := hfr (k * 3 + 1)
      have f2 := hfr (k * 3 + 2)
      clear hat e0 e1 e2 hx hzr hfr
      obtain ⟨xv, ⟨xt, xr⟩, xn⟩ := x
      subst hxv
      simp only at c0 c1 c2
      have HP : Hid (∀ w2, Below wr.heap.size wr w2 → OwnC (((w2.setCell ⟨w.heap.size, k * 3, none⟩ (.slice Ax nx cx)).setCell ⟨w.heap.size, k * 3 + 1, none⟩ (.int .i64 (max xt t))).setCell ⟨w.heap.size, k * 3 + 2, none⟩ (.int .i64 xn)) w.heap.size (.slice (some ⟨w.heap.size, 0, none⟩) L.length L.length) (partU (L.map (laterU t)) (k + 1))) := by
        intro w2 h2
        have := OwnC.put (HO.out.below h2) (by rw [hpl, hM]) (by rw [hpl]; omega) (laterU t ⟨.slice Ax nx cx, (xt, xr), xn⟩)
        rw [HX.out] at this
        exact this
      clear HX HO hpl
      have hp1 : (⟨w.heap.size, k * 3, none⟩ : Addr).block < wr.heap.size := hgl
      go_wp2_with fail
      refine ⟨⟨k + 1, by omega, by go_num, ?_, ?_⟩, by simp [intOf]; omega⟩
      · exact Below.alloc (Below.setCell (Below.setCell (Below.setCell hb (by simp) _) (by simp) _) (by simp) _) (by simp; omega) _
      · exact OwnG.alloc (HP.out wr (Below.refl _ _)) _
    · obtain rfl : k = L.length := by omega
      have HT : Hid (Calls Try.prog 21 #[.slice (some ⟨w.heap.size, 0, none⟩) L.length L.length] wr (TidPost 1 (plainC (L.map (laterU t))) wr)) := by
        have ho := HO.out
        have e := partU_all (L.map (laterU t))
        rw [hM] at e
        rw [e] at ho
        refine settle_any _ (L.map (laterU t)) wr ⟨ho.val hkC, ?_, ?_, by rw [hM]; exact HL⟩
        · intro x hx
          obtain ⟨y, hy, rfl⟩ := List.mem_map.mp hx
          exact (HR.out y hy).below hb
        · intro x hx
          obtain ⟨y, hy, rfl⟩ := List.mem_map.mp hx
          exact HB.out y hy
      clear HO ho1
      go_wp2_with (go_at_call 21; refine HT.out.mono ?_; rintro e w2 hp; have hq := Lib.hid (hp.up hb); rcases hp with ⟨hb2, ⟨hn, rfl⟩ | ⟨v', K, rfl, hr⟩⟩)
      all_goals
        go_ret2
        exact hq.out

end Go.Proofs.Ytciijaejldfcaaa.Up
