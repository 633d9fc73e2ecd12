/-
  The reference's Insert and rows.
-/
import Derived.Test.YtciijaejldfcaaaRefP
import Derived.Test.YtciijaejldfcaaaGrpP
import Derived.Handy
namespace Go.Proofs.Ytciijaejldfcaaa
open Go.RowKit

def encR (x : Rw) : List Value := [x.v]
theorem hkR (x : Rw) : (encR x).length = 1 := rfl
abbrev RwsV (w : World) (v : Value) (L : List Rw) : Prop := ValG encR 1 w v L
abbrev OwnRw (w : World) (base : Nat) (v : Value) (L : List Rw) : Prop := OwnG encR 1 42 w base v L
theorem info42 : (Try.prog.info? 42).map (fun i => (i.zero, i.size, i.bytes)) = some (some (.slice none 0 0), 1, 24) := by kernel_rfl

theorem RwsV.open {w : World} {v : Value} {L : List Rw} (h : RwsV w v L) : ∃ A c, v = .slice A L.length c ∧ Hid (L = [] ∨ ∃ b off, A = some ⟨b, off, none⟩ ∧ b < w.heap.size ∧ ∀ k d, L[k]? = some d → w.cell? ⟨b, off + k, none⟩ = some d.v) := by
  rcases h with ⟨rfl, rfl⟩ | ⟨b, off, cap, rfl, _, hb, hat, hc⟩
  · exact ⟨none, 0, rfl, .inl rfl⟩
  · refine ⟨_, _, rfl, .inr ⟨b, off, rfl, hb, fun k d hk => ?_⟩⟩
    have := hat k d hk 0 _ rfl
    simpa using this

theorem valR_at (w : World) (b : Nat) (x : Rw) (h : b = w.heap.size) : RwsV (w.alloc (.cells #[x.v] 42)) (.slice (some ⟨b, 0, none⟩) 1 1) [x] := by
  subst h
  have hb := Blk.new w #[x.v] 42
  refine .inr ⟨w.heap.size, 0, 1, rfl, (show 1 ≤ maxLen by decide), hb.lt, ?_, Nat.le_refl _⟩
  intro i y hi r u hr
  match i, hi with
  | 0, hi =>
    simp only [List.getElem?_cons_zero, Option.some.injEq] at hi
    subst hi
    have h2 : r < 1 := by have := (List.getElem?_eq_some_iff.mp hr).1; simpa [encR] using this
    obtain rfl : r = 0 := by omega
    rw [show 0 + 0 * 1 + 0 = 0 by omega, hb.cell]
    simpa [encR] using hr
  | i + 1, hi => simp at hi
theorem one_row (A : Option Addr) (n c : Nat) (l : List Dat) : ∀ x ∈ ([⟨.slice A n c, l⟩] : List Rw), ∀ u ∈ encR x, u.oneCell' = true := by
  intro x hx u hu
  simp only [List.mem_singleton] at hx
  subst hx
  simp only [encR, List.mem_singleton] at hu
  subst hu
  rfl

set_option maxRecDepth 100000 in
set_option maxHeartbeats 4000000 in
theorem insert_any (vl : Value) (x : Rw) (L : List Rw) (w : World) (hl : RwsV w vl L) (hr : ∀ y ∈ L, RowV w y.v y.l) (hx : RowV w x.v x.l) (hn : L.length ≤ 1000) :
    Calls Try.prog 71 #[vl, x.v] w fun e w' => ∃ v', e = .returned v' ∧ OwnRw w' w.heap.size v' (insR x L) ∧ Below w.heap.size w w' := by
  obtain ⟨i0, hi, hz0, hz1, hz2⟩ := info_parts info42
  have HI := Lib.hid hi
  have HZ0 := Lib.hid hz0
  have HZ1 := Lib.hid hz1
  have HZ2 := Lib.hid hz2
  clear hi hz0 hz1 hz2
  obtain ⟨A, c, rfl, HA⟩ := RwsV.open hl
  have HSH : Hid (∀ y ∈ L, ∃ A n c, y.v = .slice A n c) := by
    intro y hy
    rcases hr y hy with ⟨_, _, h, _⟩ | ⟨b, o, c, h, _⟩
    · exact ⟨_, _, _, h⟩
    · exact ⟨_, _, _, h⟩
  obtain ⟨Ax, nx, cx, hxv⟩ : ∃ A n c, x.v = .slice A n c := by
    rcases hx with ⟨_, _, h, _⟩ | ⟨b, o, c, h, _⟩
    · exact ⟨_, _, _, h⟩
    · exact ⟨_, _, _, h⟩
  obtain ⟨xv, xl⟩ := x
  simp only at hxv
  subst hxv
  have HR := Lib.hid hr
  have HX := Lib.hid hx
  have HLEN := Lib.hid (fun k (h : k ≤ L.length) => insAll_len ⟨.slice Ax nx cx, xl⟩ L k h)
  clear hl hr hx
  have hb0 := (Below.refl w.heap.size w).alloc (Nat.le_refl _) (Obj.cells #[] 42)
  go_enter Try.func71, Try.ntmps71
  go_wp2_with fail
  go_loopw [5, 6, 13] (fun a d i wr => ∃ k : Nat, k ≤ L.length ∧ i = .int .i64 k ∧ d = .bool (insAll ⟨.slice Ax nx cx, xl⟩ (L.take k)).1 ∧ Below w.heap.size w wr ∧ Hid (OwnRw wr w.heap.size a (insAll ⟨.slice Ax nx cx, xl⟩ (L.take k)).2)) (fun _ _ i _ => L.length - (intOf i).toNat)
  case atStart => exact ⟨0, Nat.zero_le _, rfl, rfl, hb0, OwnG.lit0 42 _ _ (Nat.le_refl _)⟩
  case round =>
    obtain ⟨k, hk, rfl, rfl, hb, HO⟩ := hrel
    have hz := hb.size
    by_cases hlt : k < L.length
    · obtain ⟨b, off, rfl, hbl, hat⟩ := HA.out.resolve_left (by rintro rfl; simp at hlt)
      have e0 := (hb.cell (p := ⟨b, off + k, none⟩) hbl).trans (hat k _ (List.getElem?_eq_getElem hlt))
      have HT := Lib.hid (insAll_take ⟨.slice Ax nx cx, xl⟩ L k hlt)
      have hsl := HLEN.out k hk
      have HCM : Hid (Calls Try.prog 30 #[.slice Ax nx cx, L[k].v] wr (IntPost (cmpR xl L[k].l) wr)) := refCompare_row _ _ _ _ wr (HX.out.below hb) ((HR.out _ (List.getElem_mem hlt)).below hb)
      obtain ⟨Ay, ny, cy, hyv⟩ := HSH.out _ (List.getElem_mem hlt)
      clear hat
      have hS1 : (insAll ⟨.slice Ax nx cx, xl⟩ (L.take k)).2.length ≤ 1001 := by
        split at hsl <;> omega
      clear hsl
      revert HT HCM e0 HO hyv hS1
      generalize insAll ⟨.slice Ax nx cx, xl⟩ (L.take k) = st
      generalize L[k] = y
      obtain ⟨dn, S⟩ := st
      obtain ⟨yv, yl⟩ := y
      intro HO e0 HT HCM hyv hS1
      simp only at hyv hS1 HO HCM e0
      subst hyv
      unfold insGo at HT
      simp only at HT
      revert HT HCM
      generalize cmpR xl yl = q
      intro HCM HT
      cases dn with
      | true =>
        rw [if_neg (fun h => by cases h.1)] at HT
        go_wp2_with (first | (go_at_call 30; refine HCM.out.mono ?_; rintro e w3 ⟨rfl, hb3⟩; have h3 := hb3.toBelow; have HO3 := Lib.hid (HO.out.below h3); have hb3' := hb.trans (h3.mono hz)) | (at_builtin; have HOav8 := Lib.hid (HO3.out.alloc (.cells #[.slice Ay ny cy] 42)); have HVav8 := Lib.hid (valR_at w3 w3.heap.size ⟨.slice Ay ny cy, yl⟩ rfl); have hbav8 := hb3'.alloc hb3'.size (.cells #[.slice Ay ny cy] 42); refine wpList_append_g hkR (by decide) 76 42 i0 _ 24 Try.underlying76 HI.out HZ0.out HZ1.out HZ2.out rfl _ rfl (.tmp 32) (.tmp 34) rfl w.heap.size _ _ S [⟨.slice Ay ny cy, yl⟩] rfl rfl HOav8.out HVav8.out (one_row _ _ _ _) (by unfold maxLen; simp only [List.length_singleton]; omega) (by simp only [List.length_singleton]; omega) hbav8.size ?_; intro v8 w8 ho8 hg8; have hbov8 := hbav8.trans (OwnG.grown HOav8.out hbav8.size hg8); have HOov8 := Lib.hid ho8))
        go_roundw
        case rel => exact ⟨k + 1, by omega, by go_num, by rw [HT.out], hbov8, by rw [HT.out]; exact ho8⟩
        case measure => simp [intOf]; omega
      | false =>
        by_cases hq : q ≤ 0
        · rw [if_pos ⟨rfl, hq⟩] at HT
          by_cases hq2 : q < 0
          · rw [if_pos hq2] at HT
            go_wp2_with (first | (go_at_call 30; refine HCM.out.mono ?_; rintro e w3 ⟨rfl, hb3⟩; have h3 := hb3.toBelow; have HO3 := Lib.hid (HO.out.below h3); have hb3' := hb.trans (h3.mono hz)) | (at_builtin; have HOav8 := Lib.hid (HO3.out.alloc (.cells #[.slice Ax nx cx] 42)); have HVav8 := Lib.hid (valR_at w3 w3.heap.size ⟨.slice Ax nx cx, xl⟩ rfl); have hbav8 := hb3'.alloc hb3'.size (.cells #[.slice Ax nx cx] 42); refine wpList_append_g hkR (by decide) 76 42 i0 _ 24 Try.underlying76 HI.out HZ0.out HZ1.out HZ2.out rfl _ rfl (.tmp 28) (.tmp 30) rfl w.heap.size _ _ S [⟨.slice Ax nx cx, xl⟩] rfl rfl HOav8.out HVav8.out (one_row _ _ _ _) (by unfold maxLen; simp only [List.length_singleton]; omega) (by simp only [List.length_singleton]; omega) hbav8.size ?_; intro v8 w8 ho8 hg8; have hbov8 := hbav8.trans (OwnG.grown HOav8.out hbav8.size hg8); have HOov8 := Lib.hid ho8) | (at_builtin; have HOav9 := Lib.hid (HOov8.out.alloc (.cells #[.slice Ay ny cy] 42)); have HVav9 := Lib.hid (valR_at w8 w8.heap.size ⟨.slice Ay ny cy, yl⟩ rfl); have hbav9 := hbov8.alloc hbov8.size (.cells #[.slice Ay ny cy] 42); refine wpList_append_g hkR (by decide) 76 42 i0 _ 24 Try.underlying76 HI.out HZ0.out HZ1.out HZ2.out rfl _ rfl (.tmp 32) (.tmp 34) rfl w.heap.size _ _ (S ++ ([⟨.slice Ax nx cx, xl⟩] : List Rw)) [⟨.slice Ay ny cy, yl⟩] rfl rfl HOav9.out HVav9.out (one_row _ _ _ _) (by unfold maxLen; simp only [List.length_append, List.length_singleton]; omega) (by simp only [List.length_append, List.length_singleton]; omega) hbav9.size ?_; intro v9 w9 ho9 hg9; have hbov9 := hbav9.trans (OwnG.grown HOav9.out hbav9.size hg9); have HOov9 := Lib.hid ho9))
            go_roundw
            case rel => exact ⟨k + 1, by omega, by go_num, by rw [HT.out], hbov9, by rw [HT.out]; have h := ho9; rw [List.append_assoc] at h; exact h⟩
            case measure => simp [intOf]; omega
          · rw [if_neg hq2] at HT
            go_wp2_with (first | (go_at_call 30; refine HCM.out.mono ?_; rintro e w3 ⟨rfl, hb3⟩; have h3 := hb3.toBelow; have HO3 := Lib.hid (HO.out.below h3); have hb3' := hb.trans (h3.mono hz)) | (at_builtin; have HOav8 := Lib.hid (HO3.out.alloc (.cells #[.slice Ay ny cy] 42)); have HVav8 := Lib.hid (valR_at w3 w3.heap.size ⟨.slice Ay ny cy, yl⟩ rfl); have hbav8 := hb3'.alloc hb3'.size (.cells #[.slice Ay ny cy] 42); refine wpList_append_g hkR (by decide) 76 42 i0 _ 24 Try.underlying76 HI.out HZ0.out HZ1.out HZ2.out rfl _ rfl (.tmp 32) (.tmp 34) rfl w.heap.size _ _ S [⟨.slice Ay ny cy, yl⟩] rfl rfl HOav8.out HVav8.out (one_row _ _ _ _) (by unfold maxLen; simp only [List.length_singleton]; omega) (by simp only [List.length_singleton]; omega) hbav8.size ?_; intro v8 w8 ho8 hg8; have hbov8 := hbav8.trans (OwnG.grown HOav8.out hbav8.size hg8); have HOov8 := Lib.hid ho8))
            go_roundw
            case rel => exact ⟨k + 1, by omega, by go_num, by rw [HT.out], hbov8, by rw [HT.out]; exact ho8⟩
            case measure => simp [intOf]; omega
        · rw [if_neg (fun h => hq h.2)] at HT
          go_wp2_with (first | (go_at_call 30; refine HCM.out.mono ?_; rintro e w3 ⟨rfl, hb3⟩; have h3 := hb3.toBelow; have HO3 := Lib.hid (HO.out.below h3); have hb3' := hb.trans (h3.mono hz)) | (at_builtin; have HOav8 := Lib.hid (HO3.out.alloc (.cells #[.slice Ay ny cy] 42)); have HVav8 := Lib.hid (valR_at w3 w3.heap.size ⟨.slice Ay ny cy, yl⟩ rfl); have hbav8 := hb3'.alloc hb3'.size (.cells #[.slice Ay ny cy] 42); refine wpList_append_g hkR (by decide) 76 42 i0 _ 24 Try.underlying76 HI.out HZ0.out HZ1.out HZ2.out rfl _ rfl (.tmp 32) (.tmp 34) rfl w.heap.size _ _ S [⟨.slice Ay ny cy, yl⟩] rfl rfl HOav8.out HVav8.out (one_row _ _ _ _) (by unfold maxLen; simp only [List.length_singleton]; omega) (by simp only [List.length_singleton]; omega) hbav8.size ?_; intro v8 w8 ho8 hg8; have hbov8 := hbav8.trans (OwnG.grown HOav8.out hbav8.size hg8); have HOov8 := Lib.hid ho8))
          go_roundw
          case rel => exact ⟨k + 1, by omega, by go_num, by rw [HT.out], hbov8, by rw [HT.out]; exact ho8⟩
          case measure => simp [intOf]; omega
    · obtain rfl : k = L.length := by omega
      have HO1 := HO
      have hsl := HLEN.out _ (Nat.le_refl _)
      rw [List.take_length] at HO1 hsl
      have HN : Hid (insR ⟨.slice Ax nx cx, xl⟩ L = if (insAll ⟨.slice Ax nx cx, xl⟩ L).1 then (insAll ⟨.slice Ax nx cx, xl⟩ L).2 else (insAll ⟨.slice Ax nx cx, xl⟩ L).2 ++ [⟨.slice Ax nx cx, xl⟩]) := rfl
      have hS1 : (insAll ⟨.slice Ax nx cx, xl⟩ L).2.length ≤ 1001 := by
        split at hsl <;> omega
      clear hsl HO HLEN
      rw [List.take_length]
      revert HO1 HN hS1
      generalize insAll ⟨.slice Ax nx cx, xl⟩ L = st
      obtain ⟨dn, S⟩ := st
      intro HO1 HN hS1
      simp only at hS1 HO1 HN
      cases dn with
      | true =>
        rw [if_pos rfl] at HN
        go_wp2_with fail
        go_ret
        exact ⟨_, rfl, by rw [HN.out]; exact HO1.out, hb⟩
      | false =>
        rw [if_neg (by decide)] at HN
        go_wp2_with (at_builtin; have HOav8 := Lib.hid (HO1.out.alloc (.cells #[.slice Ax nx cx] 42)); have HVav8 := Lib.hid (valR_at wr wr.heap.size ⟨.slice Ax nx cx, xl⟩ rfl); have hbav8 := hb.alloc hb.size (.cells #[.slice Ax nx cx] 42); refine wpList_append_g hkR (by decide) 76 42 i0 _ 24 Try.underlying76 HI.out HZ0.out HZ1.out HZ2.out rfl _ rfl (.tmp 39) (.tmp 41) rfl w.heap.size _ _ S [⟨.slice Ax nx cx, xl⟩] rfl rfl HOav8.out HVav8.out (one_row _ _ _ _) (by unfold maxLen; simp only [List.length_singleton]; omega) (by simp only [List.length_singleton]; omega) hbav8.size ?_; intro v8 w8 ho8 hg8; have hbov8 := hbav8.trans (OwnG.grown HOav8.out hbav8.size hg8); have HOov8 := Lib.hid ho8)
        go_ret
        exact ⟨_, rfl, by rw [HN.out]; exact ho8, hbov8⟩

end Go.Proofs.Ytciijaejldfcaaa
