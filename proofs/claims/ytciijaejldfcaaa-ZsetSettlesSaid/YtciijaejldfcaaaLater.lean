/-
  zset.Later: updates with nothing ahead of a time, settled.
-/
import Derived.Test.YtciijaejldfcaaaTimP
namespace Go.Proofs.Ytciijaejldfcaaa.Up
open Go.RowKit

theorem cells_set3 : ∀ (l : List Cnt) (k : Nat) (x : Cnt), k < l.length → (((l.flatMap encC).set (k * 3) x.v).set (k * 3 + 1) (.int .i64 x.l.1)).set (k * 3 + 2) (.int .i64 x.n) = (l.set k x).flatMap encC
  | [], k, x, h => by simp at h
  | e :: l, 0, x, _ => by simp [encC]
  | e :: l, k + 1, x, h => by
    have ih := cells_set3 l k x (by simp at h; omega)
    have e1 : (k + 1) * 3 = k * 3 + 1 + 1 + 1 := by omega
    rw [List.set_cons_succ, List.flatMap_cons, List.flatMap_cons, ← ih, e1]
    simp [encC]

/-- An update stored into a list of the call's own. -/
theorem OwnC.put {w : World} {base g n cap i : Nat} {K : List Cnt} (h : OwnC w base (.slice (some ⟨g, 0, none⟩) n cap) K) (hn : K.length = n) (hi : i < K.length) (x : Cnt) :
    OwnC (((w.setCell ⟨g, i * 3, none⟩ x.v).setCell ⟨g, i * 3 + 1, none⟩ (.int .i64 x.l.1)).setCell ⟨g, i * 3 + 2, none⟩ (.int .i64 x.n)) base (.slice (some ⟨g, 0, none⟩) n cap) (K.set i x) := by
  subst hn
  have h3 := (World.ownsRow.stored (World.ownsRow.stored (World.ownsRow.stored h (i * 3) x.v).1 (i * 3 + 1) (.int .i64 x.l.1)).1 (i * 3 + 2) (.int .i64 x.n)).1
  rw [cells_set3 K i x hi] at h3
  unfold OwnC OwnG
  rw [List.length_set]
  exact h3

def zeroU : Cnt := ⟨.slice none 0 0, (0, []), 0⟩

theorem made_zeroU (n : Nat) : (madeCells (Value.agg #[.slice none 0 0, .int .i64 0, .int .i64 0]).cells (n * 3)).toList = (List.replicate n zeroU).flatMap encC := by
  apply List.ext_getElem?
  intro i
  by_cases hi : i < n * 3
  · have h1 : (List.replicate n zeroU)[i / 3]? = some zeroU := by rw [List.getElem?_replicate, if_pos (by omega)]
    have h2 := encs_at encC 3 hkC _ _ (i % 3) zeroU h1 (Nat.mod_lt _ (by decide))
    rw [show i / 3 * 3 + i % 3 = i by omega] at h2
    rw [h2]
    unfold madeCells
    simp only [Array.getElem?_toList, Array.getElem?_map, Array.getElem?_range, hi, if_true, Option.map_some]
    have h3 : i % 3 < 3 := Nat.mod_lt _ (by decide)
    have h4 : (Value.agg #[.slice none 0 0, .int .i64 0, .int .i64 0]).cells = #[.slice none 0 0, .int .i64 0, .int .i64 0] := by simp [Value.cells]
    rw [h4]
    show some (#[Value.slice none 0 0, .int .i64 0, .int .i64 0][i % 3]!) = _
    generalize i % 3 = r at h3
    match r, h3 with
    | 0, _ => rfl
    | 1, _ => rfl
    | 2, _ => rfl
  · rw [List.getElem?_eq_none (by simp [madeCells]; omega), List.getElem?_eq_none (by rw [encs_len encC 3 hkC, List.length_replicate]; omega)]

/-- The updates stored so far, and the places still to fill. -/
def partU (l : List Cnt) (k : Nat) : List Cnt := l.take k ++ List.replicate (l.length - k) zeroU
theorem partU_len (l : List Cnt) (k : Nat) (hk : k ≤ l.length) : (partU l k).length = l.length := by unfold partU; simp; omega
theorem partU_set (l : List Cnt) (k : Nat) (hk : k < l.length) : (partU l k).set k l[k] = partU l (k + 1) := by
  unfold partU
  rw [List.set_append, if_neg (by simp; omega), List.take_succ_eq_append_getElem hk, List.append_assoc]
  congr 1
  have : k - (l.take k).length = 0 := by simp; omega
  rw [this, show l.length - k = (l.length - (k + 1)) + 1 by omega, List.replicate_succ]
  rfl
theorem partU_all (l : List Cnt) : partU l l.length = l := by unfold partU; simp
theorem partU_get (l : List Cnt) (k : Nat) (hk : k < l.length) : (partU l k)[k]? = some zeroU := by
  unfold partU
  rw [List.getElem?_append_right (by simp; omega), List.getElem?_replicate, if_pos (by simp; omega)]

/-- An update with nothing ahead of a time. -/
def laterU (t : Int) (x : Cnt) : Cnt := ⟨x.v, (max x.l.1 t, x.l.2), x.n⟩

set_option maxRecDepth 100000 in
set_option maxHeartbeats 8000000 in
theorem later_ok (v : Value) (L : List Cnt) (t : Int) (w : World) (h : UpdIns w v L) (hf : ∀ r, fitsB (1 * cntR (plainC (L.map (laterU t))) r) = true) : Calls Try.prog 25 #[v, .int .i64 t] w (TidOk 1 (plainC (L.map (laterU t))) w) := by
  obtain ⟨j0, hj, hy0, hy1, hy2⟩ := info_parts info48
  have HR := Lib.hid h.2.1
  have HB := Lib.hid h.2.2.1
  have HL : L.length ≤ 1000000 := h.2.2.2
  have HF := Lib.hid hf
  obtain ⟨A, c, rfl, HA⟩ : ∃ A c, v = .slice A L.length c ∧ Hid (L = [] ∨ ∃ b off, A = some ⟨b, off, none⟩ ∧ b < w.heap.size ∧ AtG encC 3 w b off L) := by
    rcases h.1 with ⟨rfl, rfl⟩ | ⟨b, off, cap, rfl, _, hb, hat, _⟩
    · exact ⟨none, 0, rfl, .inl rfl⟩
    · exact ⟨_, _, rfl, .inr ⟨b, off, rfl, hb, hat⟩⟩
  clear h hf
  have hM : (L.map (laterU t)).length = L.length := List.length_map _
  go_enter Try.func25, Try.ntmps25
  go_wp2_with (at_make; refine wpList_make_full _ rfl _ _ 30 rfl w.heap.size 48 j0 _ 3 Try.underlying30 hj hy0 hy1 .i64 .i64 _ _ L.length rfl rfl rfl rfl (by rw [hy2]; omega) (by unfold maxLen; omega) (Nat.le_refl _) ?_; intro w1 hown hg)
  rw [made_zeroU] at hown
  have hb1 : Below w.heap.size w w1 := (Below.refl _ w).grown hg (Nat.le_refl _) (by simp)
  have ho1 : Hid (OwnC w1 w.heap.size (.slice (some ⟨w.heap.size, 0, none⟩) L.length L.length) (partU (L.map (laterU t)) 0)) := by
    unfold Hid OwnC OwnG partU
    simpa using hown
  clear hown hg hj hy0 hy1 hy2
  go_loopw [14] (fun i wr => ∃ k : Nat, k ≤ L.length ∧ i = .int .i64 k ∧ Below w.heap.size w wr ∧ Hid (OwnC wr w.heap.size (.slice (some ⟨w.heap.size, 0, none⟩) L.length L.length) (partU (L.map (laterU t)) k))) (fun i _ => L.length - (intOf i).toNat)
  case atStart => exact ⟨0, by omega, rfl, hb1, ho1⟩
  case round =>
    obtain ⟨k, hk, rfl, hb, HO⟩ := hrel
    have hz := hb.size
    by_cases hlt : k < L.length
    · obtain ⟨b, off, rfl, hbl, hat⟩ := HA.out.resolve_left (by rintro rfl; simp at hlt)
      have hMk : k < (L.map (laterU t)).length := by omega
      have HX : Hid ((partU (L.map (laterU t)) k).set k (laterU t L[k]) = partU (L.map (laterU t)) (k + 1)) := by
        have := partU_set (L.map (laterU t)) k hMk
        rw [List.getElem_map] at this
        exact this
      obtain ⟨x, hx⟩ : ∃ x, L[k] = x := ⟨_, rfl⟩
      have e0 := hat k x (by rw [← hx]; exact List.getElem?_eq_getElem hlt) 0 _ rfl
      have e1 := hat k x (by rw [← hx]; exact List.getElem?_eq_getElem hlt) 1 _ rfl
      have e2 := hat k x (by rw [← hx]; exact List.getElem?_eq_getElem hlt) 2 _ rfl
      rw [Nat.add_zero] at e0
      have c0 := (hb.cell (p := ⟨b, off + k * 3, none⟩) hbl).trans e0
      have c1 := (hb.cell (p := ⟨b, off + k * 3 + 1, none⟩) hbl).trans e1
      have c2 := (hb.cell (p := ⟨b, off + k * 3 + 2, none⟩) hbl).trans e2
      rw [hx] at HX
      obtain ⟨Ax, nx, cx, hxv⟩ := shp_of HR.out x (by rw [← hx]; exact List.getElem_mem hlt)
      have hpl := partU_len (L.map (laterU t)) k (by omega)
      have hgl : w.heap.size < wr.heap.size := (HO.out.lt w.heap.size rfl).2
      have hzr : AtG encC 3 wr w.heap.size 0 (partU (L.map (laterU t)) k) := by
        rcases HO.out.val hkC with ⟨e, _⟩ | ⟨b', off', cap', e, _, _, hr, _⟩
        · cases e
        · injection e with e4 e5 e6
          injection e4 with e4
          injection e4 with e7 e8
          subst e7 e8
          exact hr
      have z0 := hzr k zeroU (partU_get _ _ hMk) 0 _ rfl
      have z1 := hzr k zeroU (partU_get _ _ hMk) 1 _ rfl
      have z2 := hzr k zeroU (partU_get _ _ hMk) 2 _ rfl
      simp only [Nat.zero_add, Nat.add_zero, zeroU] at z0 z1 z2
      have hfr : ∀ j, wr.frozen? ⟨w.heap.size, j, none⟩ = false := fun j => by
        have ho' := HO.out
        unfold OwnC OwnG at ho'
        rw [hpl] at ho'
        exact World.ownsRow.frozenAt (by rw [hM] at ho'; exact ho') j
      have f0 := hfr (k * 3)
      have f1 := hfr (k * 3 + 1)
      have f2 := hfr (k * 3 + 2)
      clear hat e0 e1 e2 hx hzr hfr
      obtain ⟨xv, ⟨xt, xr⟩, xn⟩ := x
      subst hxv
      simp only at c0 c1 c2
      have HP : Hid (∀ w2, Below wr.heap.size wr w2 → OwnC (((w2.setCell ⟨w.heap.size, k * 3, none⟩ (.slice Ax nx cx)).setCell ⟨w.heap.size, k * 3 + 1, none⟩ (.int .i64 (max xt t))).setCell ⟨w.heap.size, k * 3 + 2, none⟩ (.int .i64 xn)) w.heap.size (.slice (some ⟨w.heap.size, 0, none⟩) L.length L.length) (partU (L.map (laterU t)) (k + 1))) := by
        intro w2 h2
        have := OwnC.put (HO.out.below h2) (by rw [hpl, hM]) (by rw [hpl]; omega) (laterU t ⟨.slice Ax nx cx, (xt, xr), xn⟩)
        rw [HX.out] at this
        exact this
      clear HX HO hpl
      have hp1 : (⟨w.heap.size, k * 3, none⟩ : Addr).block < wr.heap.size := hgl
      go_wp2_with fail
      refine ⟨⟨k + 1, by omega, by go_num, ?_, ?_⟩, by simp [intOf]; omega⟩
      · exact Below.alloc (Below.setCell (Below.setCell (Below.setCell hb (by simp) _) (by simp) _) (by simp) _) (by simp; omega) _
      · exact OwnG.alloc (HP.out wr (Below.refl _ _)) _
    · obtain rfl : k = L.length := by omega
      have HT : Hid (Calls Try.prog 21 #[.slice (some ⟨w.heap.size, 0, none⟩) L.length L.length] wr (TidOk 1 (plainC (L.map (laterU t))) wr)) := by
        have ho := HO.out
        have e := partU_all (L.map (laterU t))
        rw [hM] at e
        rw [e] at ho
        refine settle_ok _ (L.map (laterU t)) wr ⟨ho.val hkC, ?_, ?_, by rw [hM]; exact HL⟩ HF.out
        · intro x hx
          obtain ⟨y, hy, rfl⟩ := List.mem_map.mp hx
          exact (HR.out y hy).below hb
        · intro x hx
          obtain ⟨y, hy, rfl⟩ := List.mem_map.mp hx
          exact HB.out y hy
      clear HO HF ho1
      go_wp2_with (go_at_call 21; refine HT.out.mono ?_; rintro e w2 ⟨v', K, rfl, hb2, ht, ho, hfr, hl⟩)
      go_ret2
      exact ⟨v', K, rfl, hb.trans (hb2.mono hz), ht, ho.more hz, hfr.more hz, hl⟩

end Go.Proofs.Ytciijaejldfcaaa.Up
