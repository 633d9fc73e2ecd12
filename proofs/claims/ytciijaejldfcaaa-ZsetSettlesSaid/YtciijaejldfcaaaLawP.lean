/-
  What stage 3's laws call of their own: cut, small, known, Like, Same; and that Tidy goes well where all has room.
-/
import Derived.Test.YtciijaejldfcaaaTidy
import Derived.Test.YtciijaejldfcaaaRefCmp
namespace Go.Proofs.Ytciijaejldfcaaa
open Go.RowKit

/-- A tidy list comes back in new memory. -/
def TidOk (sg : Int) (P : List CRow) (w : World) (e : Ending) (w' : World) : Prop :=
  ∃ v' K, e = .returned (.tuple #[v', .int .i64 0]) ∧ Below w.heap.size w w' ∧ Tid sg P (plainC K) ∧ OwnC w' w.heap.size v' K ∧ FreshIn w' w.heap.size K ∧ K.length ≤ P.length

theorem TidPost.ok {sg : Int} {P : List CRow} {w : World} {e : Ending} {w' : World} (h : TidPost sg P w e w') (hf : ∀ r, fitsB (sg * cntR P r) = true) : TidOk sg P w e w' := by
  obtain ⟨hb, h⟩ := h
  rcases h with ⟨⟨r, hr⟩, _⟩ | ⟨v', K, he, ht, ho, hfr, hl⟩
  · rw [hf r] at hr; cases hr
  · exact ⟨v', K, he, hb, ht, ho, hfr, hl⟩

theorem tidy_ok (v : Value) (L : List Cnt) (w : World) (h : CntIns w v L) (hf : ∀ r, fitsB (1 * cntR (plainC L) r) = true) : Calls Try.prog 11 #[v] w (TidOk 1 (plainC L) w) :=
  (tidy_any v L w h).mono fun _ _ k => k.ok hf
theorem negate_ok (v : Value) (L : List Cnt) (w : World) (h : CntIns w v L) (hf : ∀ r, fitsB (-1 * cntR (plainC L) r) = true) : Calls Try.prog 13 #[v] w (TidOk (-1) (plainC L) w) :=
  (negate_any v L w h).mono fun _ _ k => k.ok hf

/-- The rows of a tidy list are rows of the list. -/
theorem tid_rows {sg : Int} {P T : List CRow} (h : Tid sg P T) (x : CRow) (hx : x ∈ T) : ∃ y ∈ P, y.1 = x.1 := by
  have h1 := asc_cnt T h.asc x hx
  rw [h.cnt] at h1
  have h2 := (h.nz x hx).1
  have h3 : cntR P x.1 ≠ 0 := by intro e; rw [e] at h1; omega
  obtain ⟨y, hy, hyx⟩ := cntR_some P x.1 h3
  exact ⟨y, hy, cmpR_eq _ _ hyx⟩

/-- What comes back can go in again. -/
theorem tid_ins {sg : Int} {P : List CRow} {K : List Cnt} {w : World} {base : Nat} {v : Value} (ht : Tid sg P (plainC K)) (ho : OwnC w base v K) (hf : FreshIn w base K) (hP : ∀ y ∈ P, RowB y.1) (hl : K.length ≤ 1000000) : CntIns w v K := by
  have hB : ∀ x ∈ K, RowB x.l := by
    intro x hx
    obtain ⟨y, hy, e⟩ := tid_rows ht (x.l, x.n) (List.mem_map.mpr ⟨x, hx, rfl⟩)
    have : y.1 = x.l := e
    rw [← this]; exact hP y hy
  refine ⟨ho.val hkC, ?_, ?_, hl⟩
  · intro x hx
    refine (hf x hx).row ?_
    have := (hB x hx).1
    unfold maxLen; omega
  · intro x hx
    have h2 := (ht.nz (x.l, x.n) (List.mem_map.mpr ⟨x, hx, rfl⟩)).2
    unfold fitsB at h2
    rw [decide_eq_true_eq] at h2
    exact ⟨hB x hx, h2⟩

set_option maxRecDepth 100000 in
theorem refSame_any (v1 v2 : Value) (l1 l2 : List Dat) (w : World) (h1 : RowV w v1 l1) (h2 : RowV w v2 l2) :
    Calls Try.prog 31 #[v1, v2] w (BoolPost (decide (cmpR l1 l2 = 0)) w) := by
  have H : Hid (Calls Try.prog 30 #[v1, v2] w (IntPost (cmpR l1 l2) w)) := refCompare_row v1 v2 l1 l2 w h1 h2
  clear h1 h2
  revert H
  generalize cmpR l1 l2 = X
  intro H
  go_enter Try.func31, Try.ntmps31
  go_wp2_with (go_at_call 30; refine H.out.mono ?_; rintro e w1 ⟨rfl, hb1⟩)
  go_ret
  exact ⟨congrArg (fun b => Ending.returned (.bool b)) (by by_cases h : X = 0 <;> simp [h]), hb1⟩

theorem cut_any (v : Value) (L : List Cnt) (w : World) (hv : CntV w v L) :
    Calls Try.prog 10 #[v] w fun e w' => ∃ v', e = .returned v' ∧ CntV w v' (L.take 60) ∧ w = w' := by
  rcases hv with ⟨rfl, rfl⟩ | ⟨b, off, cap, rfl, hm, hb, hat, hlc⟩
  · go_enter Try.func10, Try.ntmps10
    go_wp2
    go_ret
    exact ⟨_, rfl, .inl ⟨rfl, rfl⟩, rfl⟩
  · unfold maxLen at hm
    have HAT := Lib.hid hat
    clear hat
    by_cases h : L.length ≤ 60
    · have hz : ¬ (60 : Int) < L.length := by omega
      go_enter Try.func10, Try.ntmps10
      go_wp2
      go_ret
      exact ⟨_, rfl, by rw [List.take_of_length_le h]; exact .inr ⟨b, off, cap, rfl, hm, hb, HAT.out, hlc⟩, rfl⟩
    · have hz : (60 : Int) < L.length := by omega
      have hl : (L.take 60).length = 60 := by rw [List.length_take]; omega
      have hcap : 60 ≤ cap := by omega
      have HT : AtG encC 2 w b off (L.take 60) := by
        intro i x hi r u hr
        refine HAT.out i x ?_ r u hr
        rw [List.getElem?_take] at hi
        split at hi
        · exact hi
        · cases hi
      have HV : Hid (∀ c, 60 ≤ c → CntV w (.slice (some ⟨b, off, none⟩) 60 c) (L.take 60)) := fun c hc => .inr ⟨b, off, c, by rw [hl], by rw [hl]; decide, hb, HT, by rw [hl]; exact hc⟩
      clear HT
      go_enter Try.func10, Try.ntmps10
      go_wp2
      go_ret
      exact ⟨_, rfl, HV.out _ (by omega), rfl⟩


theorem valC_at (w : World) (b : Nat) (x : Cnt) (h : b = w.heap.size) : CntV (w.alloc (.cells #[x.v, .int .i64 x.n] 44)) (.slice (some ⟨b, 0, none⟩) 1 1) [x] := by
  subst h
  exact valC_lit w x

/-- A count cut to less than a million. -/
def smallC (x : Cnt) : Cnt := ⟨x.v, x.l, x.n.tmod 1000000⟩

theorem tmod_small (n : Int) : -1000000 < n.tmod 1000000 ∧ n.tmod 1000000 < 1000000 := by
  have h1 := Int.tmod_lt_of_pos n (b := 1000000) (by decide)
  have h2 := Int.tmod_lt_of_pos (-n) (b := 1000000) (by decide)
  rw [Int.neg_tmod] at h2
  omega

set_option maxRecDepth 100000 in
set_option maxHeartbeats 2000000 in
theorem small_any (v : Value) (L : List Cnt) (w : World) (hv : CntV w v L) (hr : RowsIn w L) :
    Calls Try.prog 28 #[v] w fun e w' => ∃ v', e = .returned v' ∧ OwnC w' w.heap.size v' ((L.take 60).map smallC) ∧ Below w.heap.size w w' := by
  obtain ⟨i0, hi, hz0, hz1, hz2⟩ := info_parts Try.info44
  have HI := Lib.hid hi
  have HZ0 := Lib.hid hz0
  have HZ1 := Lib.hid hz1
  have HZ2 := Lib.hid hz2
  have HCUT := Lib.hid (cut_any v L w hv)
  have HR : Hid (RowsIn w (L.take 60)) := fun x hx => hr x (List.mem_of_mem_take hx)
  have hl : (L.take 60).length ≤ 60 := by rw [List.length_take]; omega
  clear hi hz0 hz1 hz2 hv hr
  revert HCUT HR hl
  generalize L.take 60 = M
  intro HCUT HR hl
  go_enter Try.func28, Try.ntmps28
  go_wp2_with fail
  refine HCUT.out.mono ?_
  rintro e w1 ⟨v1, rfl, hv1, rfl⟩
  clear HCUT
  obtain ⟨A, c, rfl, HA⟩ : ∃ A c, v1 = .slice A M.length c ∧ Hid (M = [] ∨ ∃ b off, A = some ⟨b, off, none⟩ ∧ b < w.heap.size ∧ AtG encC 2 w b off M) := by
    rcases hv1 with ⟨rfl, rfl⟩ | ⟨b, off, cap, rfl, _, hb, hat, _⟩
    · exact ⟨none, 0, rfl, .inl rfl⟩
    · exact ⟨_, _, rfl, .inr ⟨b, off, rfl, hb, hat⟩⟩
  clear hv1
  go_wp2_with fail
  go_loopw [3, 9] (fun a i wr => ∃ k : Nat, k ≤ M.length ∧ i = .int .i64 k ∧ Below w.heap.size w wr ∧ Hid (OwnC wr w.heap.size a ((M.take k).map smallC))) (fun _ i _ => M.length - (intOf i).toNat)
  case atStart => exact ⟨0, Nat.zero_le _, rfl, Below.refl _ _, OwnG.nil 44 _ _⟩
  case round =>
    obtain ⟨k, hk, rfl, hb, HO⟩ := hrel
    have hz := hb.size
    by_cases hlt : k < M.length
    · obtain ⟨b, off, rfl, hbl, hat⟩ := HA.out.resolve_left (by rintro rfl; simp at hlt)
      obtain ⟨x, hx⟩ : ∃ x, M[k] = x := ⟨_, rfl⟩
      have e0 := hat k x (by rw [← hx]; exact List.getElem?_eq_getElem hlt) 0 _ rfl
      have e1 := hat k x (by rw [← hx]; exact List.getElem?_eq_getElem hlt) 1 _ rfl
      rw [Nat.add_zero] at e0
      have c0 := (hb.cell (p := ⟨b, off + k * 2, none⟩) hbl).trans e0
      have c1 := (hb.cell (p := ⟨b, off + k * 2 + 1, none⟩) hbl).trans e1
      have HX : Hid ((M.take (k + 1)).map smallC = (M.take k).map smallC ++ [smallC x]) := by
        unfold Hid
        rw [List.take_succ_eq_append_getElem hlt, List.map_append, hx]
        rfl
      have hxv := HR.out x (by rw [← hx]; exact List.getElem_mem hlt)
      clear hat e0 e1 hx
      obtain ⟨xv, xl, xn⟩ := x
      obtain ⟨Ax, nx, cx, rfl⟩ : ∃ A n c, xv = .slice A n c := by
        rcases hxv with ⟨_, _, h, _⟩ | ⟨b, o, c, h, _⟩
        · exact ⟨_, _, _, h⟩
        · exact ⟨_, _, _, h⟩
      simp only at c0 c1
      clear hxv
      have hml : ((M.take k).map smallC).length + 1 ≤ 61 := by rw [List.length_map, List.length_take]; omega
      have hts := tmod_small xn
      go_wp2_with (at_builtin; have hb7 := (hb.alloc hz (.cells #[.slice Ax nx cx, .int .i64 xn] 44)).alloc (by simp; omega) (.cells #[.slice Ax nx cx, .int .i64 (xn.tmod 1000000)] 44); have HO7 := Lib.hid ((HO.out.alloc (.cells #[.slice Ax nx cx, .int .i64 xn] 44)).alloc (.cells #[.slice Ax nx cx, .int .i64 (xn.tmod 1000000)] 44)); have HV7 := Lib.hid (valC_at (wr.alloc (.cells #[.slice Ax nx cx, .int .i64 xn] 44)) (wr.heap.size + 1) (smallC ⟨.slice Ax nx cx, xl, xn⟩) (by simp)); refine wpList_append_g hkC (by decide) 22 44 i0 _ 32 Try.underlying22 HI.out HZ0.out HZ1.out HZ2.out rfl _ rfl (.tmp 13) (.tmp 20) rfl w.heap.size _ _ ((M.take k).map smallC) [smallC ⟨.slice Ax nx cx, xl, xn⟩] rfl rfl HO7.out HV7.out (by intro x hx u hu; simp only [List.mem_singleton] at hx; subst hx; simp [encC, smallC] at hu; rcases hu with rfl | rfl <;> rfl) (by unfold maxLen; simp only [List.length_singleton]; omega) (by simp only [List.length_singleton]; omega) (by simp; omega) ?_; intro v8 w8 ho8 hg8)
      have hb8 := hb7.trans (OwnG.grown HO7.out (by simp; omega) hg8)
      go_roundw
      case rel => exact ⟨k + 1, by omega, by go_num, hb8, by rw [HX.out]; exact ho8⟩
      case measure => simp [intOf]; omega
    · obtain rfl : k = M.length := by omega
      have HO2 : Hid (OwnC wr w.heap.size u3 (M.map smallC)) := by
        have := HO.out
        rwa [List.take_length] at this
      clear HO
      go_wp2
      go_ret
      exact ⟨_, rfl, HO2.out, hb⟩

end Go.Proofs.Ytciijaejldfcaaa
