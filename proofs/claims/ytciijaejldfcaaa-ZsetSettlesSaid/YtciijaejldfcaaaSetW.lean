/-
  The reference's times, Settle, At and Later.
-/
import Derived.Test.YtciijaejldfcaaaSetP
namespace Go.Proofs.Ytciijaejldfcaaa.Up
open Go.RowKit

def encTm (x : Int) : List Value := [.int .i64 x]
theorem hkTm (x : Int) : (encTm x).length = 1 := rfl
abbrev TmV (w : World) (v : Value) (L : List Int) : Prop := ValG encTm 1 w v L
abbrev OwnTm (w : World) (base : Nat) (v : Value) (L : List Int) : Prop := OwnG encTm 1 2 w base v L
theorem info2 : (Try.prog.info? 2).map (fun i => (i.zero, i.size, i.bytes)) = some (some (.int .i64 0), 1, 8) := by kernel_rfl
theorem tm_at (w : World) (b : Nat) (x : Int) (h : b = w.heap.size) : TmV (w.alloc (.cells #[.int .i64 x] 2)) (.slice (some ⟨b, 0, none⟩) 1 1) [x] := by
  subst h
  have hb := Blk.new w #[.int .i64 x] 2
  refine .inr ⟨w.heap.size, 0, 1, rfl, (show 1 ≤ maxLen by decide), hb.lt, ?_, Nat.le_refl _⟩
  intro i y hi r u hr
  match i, hi with
  | 0, hi =>
    simp only [List.getElem?_cons_zero, Option.some.injEq] at hi
    subst hi
    have h2 : r < 1 := by have := (List.getElem?_eq_some_iff.mp hr).1; simpa [encTm] using this
    obtain rfl : r = 0 := by omega
    rw [show 0 + 0 * 1 + 0 = 0 by omega, hb.cell]
    simpa [encTm] using hr
  | i + 1, hi => simp at hi
theorem one_tm (d : Int) : ∀ x ∈ [d], ∀ u ∈ encTm x, u.oneCell' = true := by
  intro x hx u hu
  simp only [List.mem_singleton] at hx
  subst hx
  simp only [encTm, List.mem_singleton] at hu
  subst hu
  rfl
theorem tm_shape {w : World} {base : Nat} {v : Value} {L : List Int} (h : OwnTm w base v L) : ∃ A c, v = .slice A L.length c := by
  rcases OwnG.shape h with ⟨rfl, rfl⟩ | ⟨g, cap, rfl, _⟩
  · exact ⟨_, _, rfl⟩
  · exact ⟨_, _, rfl⟩
theorem TmV.open {w : World} {v : Value} {L : List Int} (h : TmV w v L) : ∃ A c, v = .slice A L.length c ∧ Hid (L = [] ∨ ∃ b off, A = some ⟨b, off, none⟩ ∧ b < w.heap.size ∧ ∀ k d, L[k]? = some d → w.cell? ⟨b, off + k, none⟩ = some (.int .i64 d)) := by
  rcases h with ⟨rfl, rfl⟩ | ⟨b, off, cap, rfl, _, hb, hat, hc⟩
  · exact ⟨none, 0, rfl, .inl rfl⟩
  · refine ⟨_, _, rfl, .inr ⟨b, off, rfl, hb, fun k d hk => ?_⟩⟩
    have := hat k d hk 0 _ rfl
    simpa using this

set_option maxRecDepth 100000 in
set_option maxHeartbeats 4000000 in
theorem times_any (v : Value) (L : List Cnt) (w : World) (hv : CntV w v L) (hr : RowsIn w L) (hn : L.length ≤ 1000) :
    Calls Try.prog 48 #[v] w fun e w' => ∃ v', e = .returned v' ∧ OwnTm w' w.heap.size v' (timesR L) ∧ Below w.heap.size w w' := by
  obtain ⟨i0, hi, hz0, hz1, hz2⟩ := info_parts info2
  have HI := Lib.hid hi
  have HZ0 := Lib.hid hz0
  have HZ1 := Lib.hid hz1
  have HZ2 := Lib.hid hz2
  clear hi hz0 hz1 hz2
  have HSH := Lib.hid (shp_of hr)
  obtain ⟨A, c, rfl, HA⟩ : ∃ A c, v = .slice A L.length c ∧ Hid (L = [] ∨ ∃ b off, A = some ⟨b, off, none⟩ ∧ b < w.heap.size ∧ AtG encC 3 w b off L) := by
    rcases hv with ⟨rfl, rfl⟩ | ⟨b, off, cap, rfl, _, hb, hat, _⟩
    · exact ⟨none, 0, rfl, .inl rfl⟩
    · exact ⟨_, _, rfl, .inr ⟨b, off, rfl, hb, hat⟩⟩
  have HINV := Lib.hid (timesR_inv L)
  clear hv hr
  have hb0 := (Below.refl w.heap.size w).alloc (Nat.le_refl _) (Obj.cells #[] 2)
  go_enter Try.func48, Try.ntmps48
  go_wp2_with fail
  go_loopw [3, 13] (fun a i wr => ∃ k : Nat, k ≤ L.length ∧ i = .int .i64 k ∧ Below w.heap.size w wr ∧ Hid (OwnTm wr w.heap.size a (timesR (L.take k)))) (fun _ i _ => L.length - (intOf i).toNat)
  case atStart => exact ⟨0, Nat.zero_le _, rfl, hb0, OwnG.lit0 2 _ _ (Nat.le_refl _)⟩
  case round =>
    obtain ⟨k, hk, rfl, hb, HO⟩ := hrel
    have hz := hb.size
    by_cases hlt : k < L.length
    · obtain ⟨wo, rfl⟩ : ∃ wo : World, wo = wr := ⟨_, rfl⟩
      obtain ⟨b, off, rfl, hbl, hat⟩ := HA.out.resolve_left (by rintro rfl; simp at hlt)
      have e0 := (hb.cell (p := ⟨b, off + k * 3 + 0, none⟩) hbl).trans (hat k _ (List.getElem?_eq_getElem hlt) 0 _ rfl)
      have e1 := (hb.cell (p := ⟨b, off + k * 3 + 1, none⟩) hbl).trans (hat k _ (List.getElem?_eq_getElem hlt) 1 _ rfl)
      have e2 := (hb.cell (p := ⟨b, off + k * 3 + 2, none⟩) hbl).trans (hat k _ (List.getElem?_eq_getElem hlt) 2 _ rfl)
      rw [Nat.add_zero] at e0
      have HT := Lib.hid (timesR_take L k hlt)
      have hTl : (timesR (L.take k)).length ≤ 1000 := by have := (HINV.out k hk).2.1; omega
      obtain ⟨Ay, ny, cy, hyv⟩ := HSH.out _ (List.getElem_mem hlt)
      rw [hyv] at e0
      clear hat hyv
      revert hTl; revert HT; revert HO; revert e2; revert e1; revert e0
      generalize L[k].n = xn
      generalize L[k].l.1 = xt
      generalize timesR (L.take k) = T
      intro e0 e1 e2 HO HT hTl
      obtain ⟨AT, cT, rfl⟩ := tm_shape HO.out
      have HTV := Lib.hid (OwnG.val hkTm HO.out)
      clear HO
      obtain ⟨AT', cT', eT, HAT⟩ := TmV.open HTV.out
      injection eT with eT1 _ eT3
      subst eT1 eT3
      have HLEN := Lib.hid (fun j (h : j ≤ T.length) => tmAll_len xt T j h)
      have hr0 := ((Below.refl wo.heap.size wo).alloc (Nat.le_refl _) (.cells #[.slice Ay ny cy, .int .i64 xt, .int .i64 xn] 48)).alloc (by simp) (Obj.cells #[] 2)
      have HU0 := Lib.hid ((Blk.new wo #[.slice Ay ny cy, .int .i64 xt, .int .i64 xn] 48).alloc (Obj.cells #[] 2))
      have HO0 : Hid (OwnTm ((wo.alloc (.cells #[.slice Ay ny cy, .int .i64 xt, .int .i64 xn] 48)).alloc (Obj.cells #[] 2)) (wo.heap.size + 1) (.slice (some ⟨wo.heap.size + 1, 0, none⟩) 0 0) []) := by
        unfold Hid
        have h := OwnG.lit0 (enc := encTm) (k := 1) 2 (wo.alloc (.cells #[.slice Ay ny cy, .int .i64 xt, .int .i64 xn] 48)) (wo.heap.size + 1) (by simp)
        simpa using h
      go_wp2_with fail
      go_loopw [6, 7, 20] (fun a d i wr => ∃ j : Nat, j ≤ T.length ∧ i = .int .i64 j ∧ d = .bool (tmAll xt (T.take j)).1 ∧ Below wo.heap.size wo wr ∧ wo.heap.size + 1 ≤ wr.heap.size ∧ Hid (Blk wr wo.heap.size #[.slice Ay ny cy, .int .i64 xt, .int .i64 xn] 48) ∧ Hid (OwnTm wr (wo.heap.size + 1) a (tmAll xt (T.take j)).2)) (fun _ _ i _ => T.length - (intOf i).toNat)
      case atStart => exact ⟨0, Nat.zero_le _, rfl, rfl, hr0, by simp, HU0, HO0⟩
      case round =>
        obtain ⟨j, hj, rfl, rfl, hbs, hzs, HU, HOS⟩ := hrel
        have c1 := HU.out.cell 1
        simp only [List.getElem?_toArray, List.getElem?_cons_zero, List.getElem?_cons_succ] at c1
        by_cases hjl : j < T.length
        · obtain ⟨b2, off2, rfl, hbl2, hat2⟩ := HAT.out.resolve_left (by rintro rfl; simp at hjl)
          have g0 := (hbs.cell (p := ⟨b2, off2 + j, none⟩) hbl2).trans (hat2 j _ (List.getElem?_eq_getElem hjl))
          have HTT := Lib.hid (tmAll_take xt T j hjl)
          have hsl := HLEN.out j hj
          have hS1 : (tmAll xt (T.take j)).2.length ≤ 1001 := by
            split at hsl <;> omega
          clear hat2 hsl
          revert hS1; revert HTT; revert HOS; revert g0
          generalize tmAll xt (T.take j) = st
          generalize T[j] = y
          obtain ⟨dn, S⟩ := st
          intro g0 HOS HTT hS1
          simp only at hS1 HOS g0
          unfold tmGo at HTT
          simp only at HTT
          cases dn with
          | true =>
            rw [if_neg (fun h => by cases h.1)] at HTT
            go_wp2_with (at_builtin; have HOav8 := Lib.hid (HOS.out.alloc (.cells #[.int .i64 y] 2)); have HVav8 := Lib.hid (tm_at wr wr.heap.size y rfl); have hzav8 : wo.heap.size + 1 ≤ (wr.alloc (.cells #[.int .i64 y] 2)).heap.size := (by simp <;> omega); refine wpList_append_g hkTm (by decide) 69 2 i0 _ 8 Try.underlying69 HI.out HZ0.out HZ1.out HZ2.out rfl _ rfl (.tmp 41) (.tmp 43) rfl (wo.heap.size + 1) _ _ S [y] rfl rfl HOav8.out HVav8.out (one_tm _) (by unfold maxLen; simp only [List.length_singleton]; omega) (by simp only [List.length_singleton]; omega) hzav8 ?_; intro v8 w8 ho8 hg8; have hbov8 := (hbs.alloc hbs.size (.cells #[.int .i64 y] 2)).trans ((OwnG.grown HOav8.out hzav8 hg8).mono (by omega)); have HOov8 := Lib.hid ho8; have HUov8 : Hid (Blk w8 wo.heap.size #[.slice Ay ny cy, .int .i64 xt, .int .i64 xn] 48) := ((hg8.block wo.heap.size (by simp <;> omega) (fun e => absurd (OwnG.lt HOav8.out _ e.symm).1 (by omega))).trans (HU.out.alloc _)); have hzov8 : wo.heap.size + 1 ≤ w8.heap.size := Nat.le_trans hzav8 hg8.size)
            go_roundw
            case rel => exact ⟨j + 1, by omega, by go_num, by rw [HTT.out], hbov8, hzov8, HUov8, by rw [HTT.out]; exact ho8⟩
            case measure => simp [intOf]; omega
          | false =>
            by_cases hq : xt ≤ y
            · rw [if_pos ⟨rfl, hq⟩] at HTT
              by_cases hq2 : xt < y
              · rw [if_pos hq2] at HTT
                go_wp2_with (first | (at_builtin; have HOav8 := Lib.hid (HOS.out.alloc (.cells #[.int .i64 xt] 2)); have HVav8 := Lib.hid (tm_at wr wr.heap.size xt rfl); have hzav8 : wo.heap.size + 1 ≤ (wr.alloc (.cells #[.int .i64 xt] 2)).heap.size := (by simp <;> omega); refine wpList_append_g hkTm (by decide) 69 2 i0 _ 8 Try.underlying69 HI.out HZ0.out HZ1.out HZ2.out rfl _ rfl (.tmp 36) (.tmp 39) rfl (wo.heap.size + 1) _ _ S [xt] rfl rfl HOav8.out HVav8.out (one_tm _) (by unfold maxLen; simp only [List.length_singleton]; omega) (by simp only [List.length_singleton]; omega) hzav8 ?_; intro v8 w8 ho8 hg8; have hbov8 := (hbs.alloc hbs.size (.cells #[.int .i64 xt] 2)).trans ((OwnG.grown HOav8.out hzav8 hg8).mono (by omega)); have HOov8 := Lib.hid ho8; have HUov8 : Hid (Blk w8 wo.heap.size #[.slice Ay ny cy, .int .i64 xt, .int .i64 xn] 48) := ((hg8.block wo.heap.size (by simp <;> omega) (fun e => absurd (OwnG.lt HOav8.out _ e.symm).1 (by omega))).trans (HU.out.alloc _)); have hzov8 : wo.heap.size + 1 ≤ w8.heap.size := Nat.le_trans hzav8 hg8.size) | (at_builtin; have HOav9 := Lib.hid (HOov8.out.alloc (.cells #[.int .i64 y] 2)); have HVav9 := Lib.hid (tm_at w8 w8.heap.size y rfl); have hzav9 : wo.heap.size + 1 ≤ (w8.alloc (.cells #[.int .i64 y] 2)).heap.size := (by simp <;> omega); refine wpList_append_g hkTm (by decide) 69 2 i0 _ 8 Try.underlying69 HI.out HZ0.out HZ1.out HZ2.out rfl _ rfl (.tmp 41) (.tmp 43) rfl (wo.heap.size + 1) _ _ (S ++ [xt]) [y] rfl rfl HOav9.out HVav9.out (one_tm _) (by unfold maxLen; simp only [List.length_append, List.length_singleton]; omega) (by simp only [List.length_append, List.length_singleton]; omega) hzav9 ?_; intro v9 w9 ho9 hg9; have hbov9 := (hbov8.alloc hbov8.size (.cells #[.int .i64 y] 2)).trans ((OwnG.grown HOav9.out hzav9 hg9).mono (by omega)); have HOov9 := Lib.hid ho9; have HUov9 : Hid (Blk w9 wo.heap.size #[.slice Ay ny cy, .int .i64 xt, .int .i64 xn] 48) := ((hg9.block wo.heap.size (by simp <;> omega) (fun e => absurd (OwnG.lt HOav9.out _ e.symm).1 (by omega))).trans (HUov8.out.alloc _)); have hzov9 : wo.heap.size + 1 ≤ w9.heap.size := Nat.le_trans hzav9 hg9.size))
                go_roundw
                case rel => exact ⟨j + 1, by omega, by go_num, by rw [HTT.out], hbov9, hzov9, HUov9, by rw [HTT.out]; have h := ho9; rw [List.append_assoc] at h; exact h⟩
                case measure => simp [intOf]; omega
              · rw [if_neg hq2] at HTT
                go_wp2_with (at_builtin; have HOav8 := Lib.hid (HOS.out.alloc (.cells #[.int .i64 y] 2)); have HVav8 := Lib.hid (tm_at wr wr.heap.size y rfl); have hzav8 : wo.heap.size + 1 ≤ (wr.alloc (.cells #[.int .i64 y] 2)).heap.size := (by simp <;> omega); refine wpList_append_g hkTm (by decide) 69 2 i0 _ 8 Try.underlying69 HI.out HZ0.out HZ1.out HZ2.out rfl _ rfl (.tmp 41) (.tmp 43) rfl (wo.heap.size + 1) _ _ S [y] rfl rfl HOav8.out HVav8.out (one_tm _) (by unfold maxLen; simp only [List.length_singleton]; omega) (by simp only [List.length_singleton]; omega) hzav8 ?_; intro v8 w8 ho8 hg8; have hbov8 := (hbs.alloc hbs.size (.cells #[.int .i64 y] 2)).trans ((OwnG.grown HOav8.out hzav8 hg8).mono (by omega)); have HOov8 := Lib.hid ho8; have HUov8 : Hid (Blk w8 wo.heap.size #[.slice Ay ny cy, .int .i64 xt, .int .i64 xn] 48) := ((hg8.block wo.heap.size (by simp <;> omega) (fun e => absurd (OwnG.lt HOav8.out _ e.symm).1 (by omega))).trans (HU.out.alloc _)); have hzov8 : wo.heap.size + 1 ≤ w8.heap.size := Nat.le_trans hzav8 hg8.size)
                go_roundw
                case rel => exact ⟨j + 1, by omega, by go_num, by rw [HTT.out], hbov8, hzov8, HUov8, by rw [HTT.out]; exact ho8⟩
                case measure => simp [intOf]; omega
            · rw [if_neg (fun h => hq h.2)] at HTT
              go_wp2_with (at_builtin; have HOav8 := Lib.hid (HOS.out.alloc (.cells #[.int .i64 y] 2)); have HVav8 := Lib.hid (tm_at wr wr.heap.size y rfl); have hzav8 : wo.heap.size + 1 ≤ (wr.alloc (.cells #[.int .i64 y] 2)).heap.size := (by simp <;> omega); refine wpList_append_g hkTm (by decide) 69 2 i0 _ 8 Try.underlying69 HI.out HZ0.out HZ1.out HZ2.out rfl _ rfl (.tmp 41) (.tmp 43) rfl (wo.heap.size + 1) _ _ S [y] rfl rfl HOav8.out HVav8.out (one_tm _) (by unfold maxLen; simp only [List.length_singleton]; omega) (by simp only [List.length_singleton]; omega) hzav8 ?_; intro v8 w8 ho8 hg8; have hbov8 := (hbs.alloc hbs.size (.cells #[.int .i64 y] 2)).trans ((OwnG.grown HOav8.out hzav8 hg8).mono (by omega)); have HOov8 := Lib.hid ho8; have HUov8 : Hid (Blk w8 wo.heap.size #[.slice Ay ny cy, .int .i64 xt, .int .i64 xn] 48) := ((hg8.block wo.heap.size (by simp <;> omega) (fun e => absurd (OwnG.lt HOav8.out _ e.symm).1 (by omega))).trans (HU.out.alloc _)); have hzov8 : wo.heap.size + 1 ≤ w8.heap.size := Nat.le_trans hzav8 hg8.size)
              go_roundw
              case rel => exact ⟨j + 1, by omega, by go_num, by rw [HTT.out], hbov8, hzov8, HUov8, by rw [HTT.out]; exact ho8⟩
              case measure => simp [intOf]; omega
        · obtain rfl : j = T.length := by omega
          have HO1 := HOS
          have hsl := HLEN.out _ (Nat.le_refl _)
          rw [List.take_length] at HO1 hsl
          have HN : Hid (tmR xt T = if (tmAll xt T).1 then (tmAll xt T).2 else (tmAll xt T).2 ++ [xt]) := rfl
          have hS1 : (tmAll xt T).2.length ≤ 1001 := by
            split at hsl <;> omega
          clear hsl HOS HLEN
          rw [List.take_length]
          rw [← HT.out] at HN
          revert hS1; revert HN; revert HO1
          generalize tmAll xt T = st
          obtain ⟨dn, S⟩ := st
          intro HO1 HN hS1
          simp only at hS1 HO1 HN
          have hbws := hb.trans (hbs.mono hz)
          cases dn with
          | true =>
            rw [if_pos rfl] at HN
            go_wp2_with fail
            exact ⟨⟨k + 1, by omega, by go_num, hbws, by rw [HN.out]; exact OwnG.more HO1.out (by omega)⟩, by simp [intOf]; omega⟩
          | false =>
            rw [if_neg (by decide)] at HN
            go_wp2_with (at_builtin; have HOav8 := Lib.hid (HO1.out.alloc (.cells #[.int .i64 xt] 2)); have HVav8 := Lib.hid (tm_at wr wr.heap.size xt rfl); have hzav8 : wo.heap.size + 1 ≤ (wr.alloc (.cells #[.int .i64 xt] 2)).heap.size := (by simp <;> omega); refine wpList_append_g hkTm (by decide) 69 2 i0 _ 8 Try.underlying69 HI.out HZ0.out HZ1.out HZ2.out rfl _ rfl (.tmp 48) (.tmp 51) rfl (wo.heap.size + 1) _ _ S [xt] rfl rfl HOav8.out HVav8.out (one_tm _) (by unfold maxLen; simp only [List.length_singleton]; omega) (by simp only [List.length_singleton]; omega) hzav8 ?_; intro v8 w8 ho8 hg8; have hbov8 := (hbs.alloc hbs.size (.cells #[.int .i64 xt] 2)).trans ((OwnG.grown HOav8.out hzav8 hg8).mono (by omega)); have HOov8 := Lib.hid ho8; have HUov8 : Hid (Blk w8 wo.heap.size #[.slice Ay ny cy, .int .i64 xt, .int .i64 xn] 48) := ((hg8.block wo.heap.size (by simp <;> omega) (fun e => absurd (OwnG.lt HOav8.out _ e.symm).1 (by omega))).trans (HU.out.alloc _)); have hzov8 : wo.heap.size + 1 ≤ w8.heap.size := Nat.le_trans hzav8 hg8.size)
            exact ⟨⟨k + 1, by omega, by go_num, hb.trans (hbov8.mono hz), by rw [HN.out]; exact OwnG.more ho8 (by omega)⟩, by simp [intOf]; omega⟩
    · obtain rfl : k = L.length := by omega
      have HO1 := HO
      rw [List.take_length] at HO1
      go_wp2_with fail
      go_ret
      exact ⟨_, rfl, HO1.out, hb⟩

end Go.Proofs.Ytciijaejldfcaaa.Up
