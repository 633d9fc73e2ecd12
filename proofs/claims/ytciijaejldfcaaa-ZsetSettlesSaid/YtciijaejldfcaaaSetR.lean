/-
  The reference's At and Later.
-/
import Derived.Test.YtciijaejldfcaaaSetS
import Derived.Test.YtciijaejldfcaaaLater
namespace Go.Proofs.Ytciijaejldfcaaa
open Go.RowKit

theorem RefPost.up {sg : Int} {P : List CRow} {w wr : World} {e : Ending} {w' : World} (h : RefPost sg P wr e w') (hb : Below w.heap.size w wr) : RefPost sg P w e w' := by
  obtain ⟨hb1, h⟩ := h
  refine ⟨hb.trans (hb1.mono hb.size), ?_⟩
  rcases h with h | ⟨v', K, he, ht, ho, hfr, hl⟩
  · exact .inl h
  · exact .inr ⟨v', K, he, ht, OwnG.more ho hb.size, hfr.more hb.size, hl⟩

end Go.Proofs.Ytciijaejldfcaaa
namespace Go.Proofs.Ytciijaejldfcaaa.Up
open Go.RowKit

theorem RefPost.up {P : List CRow} {w wr : World} {e : Ending} {w' : World} (h : RefPost P wr e w') (hb : Below w.heap.size w wr) : RefPost P w e w' := ⟨hb.trans (h.1.mono hb.size), h.2⟩

set_option maxRecDepth 100000 in
set_option maxHeartbeats 4000000 in
theorem refAt_any (v : Value) (L : List Cnt) (t : Int) (w : World) (h : UpdIns w v L) (hn : L.length ≤ 1000) : Calls Try.prog 24 #[v, .int .i64 t] w (Ytciijaejldfcaaa.RefPost 1 (Ytciijaejldfcaaa.plainC (atC L t)) w) := by
  obtain ⟨i0, hi, hz0, hz1, hz2⟩ := info_parts Try.info44
  have HI := Lib.hid hi
  have HZ0 := Lib.hid hz0
  have HZ1 := Lib.hid hz1
  have HZ2 := Lib.hid hz2
  have HR := Lib.hid h.2.1
  have HB := Lib.hid h.2.2.1
  have HL : L.length ≤ 1000000 := h.2.2.2
  obtain ⟨A, c, rfl, HA⟩ : ∃ A c, v = .slice A L.length c ∧ Hid (L = [] ∨ ∃ b off, A = some ⟨b, off, none⟩ ∧ b < w.heap.size ∧ AtG encC 3 w b off L) := by
    rcases h.1 with ⟨rfl, rfl⟩ | ⟨b, off, cap, rfl, _, hb, hat, _⟩
    · exact ⟨none, 0, rfl, .inl rfl⟩
    · exact ⟨_, _, rfl, .inr ⟨b, off, rfl, hb, hat⟩⟩
  clear h hi hz0 hz1 hz2
  have hb0 := (Below.refl w.heap.size w).alloc (Nat.le_refl _) (Obj.cells #[] 44)
  go_enter Try.func24, Try.ntmps24
  go_wp2_with fail
  go_loopw [6, 12] (fun a i wr => ∃ k : Nat, k ≤ L.length ∧ i = .int .i64 k ∧ Below w.heap.size w wr ∧ Hid (Ytciijaejldfcaaa.OwnC wr w.heap.size a (atC (L.take k) t))) (fun _ i _ => L.length - (intOf i).toNat)
  case atStart => exact ⟨0, Nat.zero_le _, rfl, hb0, OwnG.lit0 44 _ _ (Nat.le_refl _)⟩
  case round =>
    obtain ⟨k, hk, rfl, hb, HO⟩ := hrel
    have hz := hb.size
    by_cases hlt : k < L.length
    · obtain ⟨b, off, rfl, hbl, hat⟩ := HA.out.resolve_left (by rintro rfl; simp at hlt)
      have HX := Lib.hid (atC_take L t k hlt)
      obtain ⟨x, hx⟩ : ∃ x, L[k] = x := ⟨_, rfl⟩
      have e0 := hat k x (by rw [← hx]; exact List.getElem?_eq_getElem hlt) 0 _ rfl
      have e1 := hat k x (by rw [← hx]; exact List.getElem?_eq_getElem hlt) 1 _ rfl
      have e2 := hat k x (by rw [← hx]; exact List.getElem?_eq_getElem hlt) 2 _ rfl
      rw [Nat.add_zero] at e0
      have c0 := (hb.cell (p := ⟨b, off + k * 3, none⟩) hbl).trans e0
      have c1 := (hb.cell (p := ⟨b, off + k * 3 + 1, none⟩) hbl).trans e1
      have c2 := (hb.cell (p := ⟨b, off + k * 3 + 2, none⟩) hbl).trans e2
      rw [hx] at HX
      obtain ⟨Ax, nx, cx, hxv⟩ := shp_of HR.out x (by rw [← hx]; exact List.getElem_mem hlt)
      clear hat e0 e1 e2 hx
      obtain ⟨xv, ⟨xt, xr⟩, xn⟩ := x
      subst hxv
      simp only at c0 c1 c2 HX
      have hml : (atC (L.take k) t).length + 1 ≤ 1000001 := by
        have h1 := atC_len (L.take k) t
        rw [List.length_take] at h1
        omega
      by_cases ht : xt ≤ t
      · rw [if_pos ht] at HX
        go_wp2_with (at_builtin; have hb7 := (hb.alloc hz (.cells #[.slice Ax nx cx, .int .i64 xt, .int .i64 xn] 48)).alloc (by simp; omega) (.cells #[.slice Ax nx cx, .int .i64 xn] 44); have HO7 := Lib.hid ((HO.out.alloc (.cells #[.slice Ax nx cx, .int .i64 xt, .int .i64 xn] 48)).alloc (.cells #[.slice Ax nx cx, .int .i64 xn] 44)); have HV7 := Lib.hid (valC_at (wr.alloc (.cells #[.slice Ax nx cx, .int .i64 xt, .int .i64 xn] 48)) (wr.heap.size + 1) ⟨.slice Ax nx cx, xr, xn⟩ (by simp)); refine wpList_append_g Ytciijaejldfcaaa.hkC (by decide) 22 44 i0 _ 32 Try.underlying22 HI.out HZ0.out HZ1.out HZ2.out rfl _ rfl (.tmp 20) (.tmp 26) rfl w.heap.size _ _ (atC (L.take k) t) [⟨.slice Ax nx cx, xr, xn⟩] rfl rfl HO7.out HV7.out (by intro x hx u hu; simp only [List.mem_singleton] at hx; subst hx; simp [Ytciijaejldfcaaa.encC] at hu; rcases hu with rfl | rfl <;> rfl) (by unfold maxLen; simp only [List.length_singleton]; omega) (by simp only [List.length_singleton]; omega) (by simp; omega) ?_; intro v8 w8 ho8 hg8)
        have hb8 := hb7.trans (OwnG.grown HO7.out (by simp; omega) hg8)
        go_roundw
        case rel => exact ⟨k + 1, by omega, by go_num, hb8, by rw [HX.out]; exact ho8⟩
        case measure => simp [intOf]; omega
      · rw [if_neg ht] at HX
        have hb7 := hb.alloc hz (.cells #[.slice Ax nx cx, .int .i64 xt, .int .i64 xn] 48)
        have HO7 := Lib.hid (HO.out.alloc (.cells #[.slice Ax nx cx, .int .i64 xt, .int .i64 xn] 48))
        go_wp2
        go_roundw
        case rel => exact ⟨k + 1, by omega, by go_num, hb7, by rw [HX.out]; exact HO7.out⟩
        case measure => simp [intOf]; omega
    · obtain rfl : k = L.length := by omega
      have HT : Hid (Calls Try.prog 12 #[u6] wr (Ytciijaejldfcaaa.RefPost 1 (Ytciijaejldfcaaa.plainC (atC L t)) wr)) := by
        have ho := HO.out
        rw [List.take_length] at ho
        refine refTidyW u6 (atC L t) wr ⟨ho.val Ytciijaejldfcaaa.hkC, ?_, ?_, Nat.le_trans (atC_len L t) HL⟩ (Nat.le_trans (atC_len L t) hn)
        · intro x hx
          obtain ⟨y, hy, h1, h2, h3⟩ := atC_mem hx
          rw [h1, h2]
          exact (HR.out y hy).below hb
        · intro x hx
          obtain ⟨y, hy, h1, h2, h3⟩ := atC_mem hx
          rw [h2, h3]
          exact HB.out y hy
      clear HO
      go_wp2_with (go_at_call 12; refine HT.out.mono ?_; rintro e w1 hp; have hq := Lib.hid (hp.up hb); rcases hp with ⟨hb1, ⟨hn, rfl⟩ | ⟨v', K, rfl, hr⟩⟩)
      all_goals
        go_ret2
        exact hq.out

theorem later_lt {x : Cnt} {t : Int} (h : x.l.1 < t) : laterU t x = ⟨x.v, (t, x.l.2), x.n⟩ := by
  unfold laterU
  rw [show max x.l.1 t = t by omega]
theorem later_ge {x : Cnt} {t : Int} (h : ¬ x.l.1 < t) : laterU t x = x := by
  unfold laterU
  rw [show max x.l.1 t = x.l.1 by omega]
theorem later_take (L : List Cnt) (t : Int) (k : Nat) (h : k < L.length) : (L.take (k + 1)).map (laterU t) = (L.take k).map (laterU t) ++ [laterU t L[k]] := by
  rw [List.take_succ_eq_append_getElem h, List.map_append]
  rfl

set_option maxRecDepth 100000 in
set_option maxHeartbeats 4000000 in
theorem refLater_any (v : Value) (L : List Cnt) (t : Int) (w : World) (h : UpdIns w v L) (hn : L.length ≤ 1000) : Calls Try.prog 26 #[v, .int .i64 t] w (RefPost (plainC (L.map (laterU t))) w) := by
  obtain ⟨i0, hi, hz0, hz1, hz2⟩ := info_parts info48
  have HI := Lib.hid hi
  have HZ0 := Lib.hid hz0
  have HZ1 := Lib.hid hz1
  have HZ2 := Lib.hid hz2
  have HR := Lib.hid h.2.1
  have HB := Lib.hid h.2.2.1
  have HLT := Lib.hid (fun k hk => later_take L t k hk)
  obtain ⟨A, c, rfl, HA⟩ : ∃ A c, v = .slice A L.length c ∧ Hid (L = [] ∨ ∃ b off, A = some ⟨b, off, none⟩ ∧ b < w.heap.size ∧ AtG encC 3 w b off L) := by
    rcases h.1 with ⟨rfl, rfl⟩ | ⟨b, off, cap, rfl, _, hb, hat, _⟩
    · exact ⟨none, 0, rfl, .inl rfl⟩
    · exact ⟨_, _, rfl, .inr ⟨b, off, rfl, hb, hat⟩⟩
  clear h hi hz0 hz1 hz2
  have hb0 := (Below.refl w.heap.size w).alloc (Nat.le_refl _) (Obj.cells #[] 48)
  go_enter Try.func26, Try.ntmps26
  go_wp2_with fail
  go_loopw [6, 12] (fun a i wr => ∃ k : Nat, k ≤ L.length ∧ i = .int .i64 k ∧ Below w.heap.size w wr ∧ Hid (OwnC wr w.heap.size a ((L.take k).map (laterU t)))) (fun _ i _ => L.length - (intOf i).toNat)
  case atStart => exact ⟨0, Nat.zero_le _, rfl, hb0, OwnG.lit0 48 _ _ (Nat.le_refl _)⟩
  case round =>
    obtain ⟨k, hk, rfl, hb, HO⟩ := hrel
    have hz := hb.size
    by_cases hlt : k < L.length
    · obtain ⟨b, off, rfl, hbl, hat⟩ := HA.out.resolve_left (by rintro rfl; simp at hlt)
      have HX := Lib.hid (HLT.out k hlt)
      have e0 := (hb.cell (p := ⟨b, off + k * 3 + 0, none⟩) hbl).trans (hat k _ (List.getElem?_eq_getElem hlt) 0 _ rfl)
      have e1 := (hb.cell (p := ⟨b, off + k * 3 + 1, none⟩) hbl).trans (hat k _ (List.getElem?_eq_getElem hlt) 1 _ rfl)
      have e2 := (hb.cell (p := ⟨b, off + k * 3 + 2, none⟩) hbl).trans (hat k _ (List.getElem?_eq_getElem hlt) 2 _ rfl)
      rw [Nat.add_zero] at e0
      obtain ⟨Ax, nx, cx, hxv⟩ := shp_of HR.out _ (List.getElem_mem hlt)
      have hml : ((L.take k).map (laterU t)).length ≤ 1000 := by rw [List.length_map, List.length_take]; omega
      clear hat
      revert hml; revert HX; revert e2; revert e1; revert e0; revert hxv
      generalize L[k] = x
      obtain ⟨xv, ⟨xt, xr⟩, xn⟩ := x
      generalize (L.take k).map (laterU t) = Q at HO
      intro hxv e0 e1 e2 HX hml
      simp only at hxv e0 e1 e2
      subst hxv
      by_cases ht : xt < t
      · rw [later_lt ht] at HX
        simp only at HX
        have hr7 := ((Below.refl wr.heap.size wr).alloc (Nat.le_refl _) (.cells #[.slice Ax nx cx, .int .i64 t, .int .i64 xn] 48)).alloc (by simp) (.cells #[.slice Ax nx cx, .int .i64 t, .int .i64 xn] 48)
        have hb7 := hb.trans (hr7.mono hz)
        have HO7 := Lib.hid (HO.out.below hr7)
        have HV7 := Lib.hid (valU_one (wr.alloc (.cells #[.slice Ax nx cx, .int .i64 t, .int .i64 xn] 48)) (wr.heap.size + 1) ⟨.slice Ax nx cx, (t, xr), xn⟩ (by simp))
        go_wp2_with (at_builtin; refine wpList_append_g hkC (by decide) 30 48 i0 _ 40 Try.underlying30 HI.out HZ0.out HZ1.out HZ2.out rfl _ rfl (.tmp 22) (.tmp 24) rfl w.heap.size _ _ Q [⟨.slice Ax nx cx, (t, xr), xn⟩] rfl rfl HO7.out HV7.out (one_upd _ _ _ _ _) (by unfold maxLen; simp only [List.length_singleton]; omega) (by simp only [List.length_singleton]; omega) hb7.size ?_; intro v8 w8 ho8 hg8)
        have hb8 := hb7.trans (OwnG.grown HO7.out hb7.size hg8)
        go_roundw
        case rel => exact ⟨k + 1, by omega, by go_num, hb8, by rw [HX.out]; exact ho8⟩
        case measure => simp [intOf]; omega
      · rw [later_ge ht] at HX
        have hr7 := ((Below.refl wr.heap.size wr).alloc (Nat.le_refl _) (.cells #[.slice Ax nx cx, .int .i64 xt, .int .i64 xn] 48)).alloc (by simp) (.cells #[.slice Ax nx cx, .int .i64 xt, .int .i64 xn] 48)
        have hb7 := hb.trans (hr7.mono hz)
        have HO7 := Lib.hid (HO.out.below hr7)
        have HV7 := Lib.hid (valU_one (wr.alloc (.cells #[.slice Ax nx cx, .int .i64 xt, .int .i64 xn] 48)) (wr.heap.size + 1) ⟨.slice Ax nx cx, (xt, xr), xn⟩ (by simp))
        go_wp2_with (at_builtin; refine wpList_append_g hkC (by decide) 30 48 i0 _ 40 Try.underlying30 HI.out HZ0.out HZ1.out HZ2.out rfl _ rfl (.tmp 22) (.tmp 24) rfl w.heap.size _ _ Q [⟨.slice Ax nx cx, (xt, xr), xn⟩] rfl rfl HO7.out HV7.out (one_upd _ _ _ _ _) (by unfold maxLen; simp only [List.length_singleton]; omega) (by simp only [List.length_singleton]; omega) hb7.size ?_; intro v8 w8 ho8 hg8)
        have hb8 := hb7.trans (OwnG.grown HO7.out hb7.size hg8)
        go_roundw
        case rel => exact ⟨k + 1, by omega, by go_num, hb8, by rw [HX.out]; exact ho8⟩
        case measure => simp [intOf]; omega
    · obtain rfl : k = L.length := by omega
      have HT : Hid (Calls Try.prog 22 #[u6] wr (RefPost (plainC (L.map (laterU t))) wr)) := by
        have ho := HO.out
        rw [List.take_length] at ho
        refine refSettle_any u6 (L.map (laterU t)) wr ⟨ho.val hkC, ?_, ?_, by rw [List.length_map]; omega⟩ (by rw [List.length_map]; exact hn)
        · intro x hx
          obtain ⟨y, hy, rfl⟩ := List.mem_map.mp hx
          exact (HR.out y hy).below hb
        · intro x hx
          obtain ⟨y, hy, rfl⟩ := List.mem_map.mp hx
          exact HB.out y hy
      clear HO
      go_wp2_with (go_at_call 22; refine HT.out.mono ?_; rintro e w2 hp; have hq := Lib.hid (hp.up hb); rcases hp with ⟨hb2, ⟨hn, rfl⟩ | ⟨v', K, rfl, hr⟩⟩)
      all_goals
        go_ret2
        exact hq.out

end Go.Proofs.Ytciijaejldfcaaa.Up
