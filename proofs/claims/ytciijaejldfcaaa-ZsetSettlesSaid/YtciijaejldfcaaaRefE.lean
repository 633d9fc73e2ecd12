/-
  Tidy, Negate, Positive and Distinct, zset's and the reference's: what they tell, with or without room.
-/
import Derived.Test.YtciijaejldfcaaaRefD
import Derived.Test.YtciijaejldfcaaaPos
namespace Go.Proofs.Ytciijaejldfcaaa
open Go.RowKit

/-- What such a call tells: ErrDiff and nothing, or what F makes of the tidy list. -/
def Out (sg : Int) (P : List CRow) (F : List CRow → List CRow) (E : Int) (T : List CRow) : Prop :=
  (E = 30 ∧ T = [] ∧ ∃ r, fitsB (sg * cntR P r) = false) ∨ (E = 0 ∧ ∃ T0, Tid sg P T0 ∧ T = F T0)
theorem tid_fits {sg : Int} {P T : List CRow} (h : Tid sg P T) (r : List Dat) : fitsB (sg * cntR P r) = true := by
  rw [← h.cnt]
  rcases Int.lt_trichotomy (cntR T r) 0 with q | q | q
  · obtain ⟨x, hx, e⟩ := cntR_some T r (by omega)
    rw [← cmpR_eq _ _ e, asc_cnt T h.asc x hx]
    exact (h.nz x hx).2
  · rw [q]; rfl
  · obtain ⟨x, hx, e⟩ := cntR_some T r (by omega)
    rw [← cmpR_eq _ _ e, asc_cnt T h.asc x hx]
    exact (h.nz x hx).2
theorem Out.unique {sg : Int} {P : List CRow} {F : List CRow → List CRow} {E E' : Int} {T T' : List CRow} (h : Out sg P F E T) (k : Out sg P F E' T') : E = E' ∧ T = T' := by
  rcases h with ⟨h1, h2, r, h3⟩ | ⟨h1, T0, h2, h3⟩
  · rcases k with ⟨k1, k2, _⟩ | ⟨k1, T1, k2, k3⟩
    · exact ⟨by rw [h1, k1], by rw [h2, k2]⟩
    · rw [tid_fits k2 r] at h3; cases h3
  · rcases k with ⟨k1, k2, r, k3⟩ | ⟨k1, T1, k2, k3⟩
    · rw [tid_fits h2 r] at k3; cases k3
    · refine ⟨by rw [h1, k1], ?_⟩
      rw [h3, k3, h2.unique k2 fun r => rfl]

/-- Such a call's ending. -/
def LPost (sg : Int) (P : List CRow) (F : List CRow → List CRow) (w : World) (e : Ending) (w' : World) : Prop :=
  ∃ v' K E, e = .returned (.tuple #[v', .int .i64 E]) ∧ CntV w' v' K ∧ RowsIn w' K ∧ K.length ≤ P.length ∧ Below w.heap.size w w' ∧ Out sg P F E (plainC K)

theorem FreshIn.rows {w : World} {base : Nat} {K : List Cnt} (h : FreshIn w base K) (hB : ∀ x ∈ K, RowB x.l) : RowsIn w K := fun x hx => (h x hx).row (by have := (hB x hx).1; unfold maxLen; omega)
theorem tid_rowB {sg : Int} {P : List CRow} {K : List Cnt} (ht : Tid sg P (plainC K)) (hP : ∀ y ∈ P, RowB y.1) : ∀ x ∈ K, RowB x.l := by
  intro x hx
  obtain ⟨y, hy, e⟩ := tid_rows ht (x.l, x.n) (List.mem_map.mpr ⟨x, hx, rfl⟩)
  have : y.1 = x.l := e
  rw [← this]; exact hP y hy
theorem TidPost.l {sg : Int} {P : List CRow} {w : World} {e : Ending} {w' : World} (h : TidPost sg P w e w') (hP : ∀ y ∈ P, RowB y.1) : LPost sg P id w e w' := by
  obtain ⟨hb, ⟨hn, rfl⟩ | ⟨v', K, rfl, ht, ho, hf, hl⟩⟩ := h
  · exact ⟨_, [], 30, rfl, .inl ⟨rfl, rfl⟩, by intro x hx; simp at hx, Nat.zero_le _, hb, .inl ⟨rfl, rfl, hn⟩⟩
  · exact ⟨_, K, 0, rfl, ho.val hkC, hf.rows (tid_rowB ht hP), hl, hb, .inr ⟨rfl, _, ht, rfl⟩⟩
theorem RefPost.l {sg : Int} {P : List CRow} {w : World} {e : Ending} {w' : World} (h : RefPost sg P w e w') : LPost sg P id w e w' := by
  obtain ⟨hb, ⟨hn, rfl⟩ | ⟨v', K, rfl, ht, ho, hf, hl⟩⟩ := h
  · exact ⟨_, [], 30, rfl, .inl ⟨rfl, rfl⟩, by intro x hx; simp at hx, Nat.zero_le _, hb, .inl ⟨rfl, rfl, hn⟩⟩
  · exact ⟨_, K, 0, rfl, ho.val hkC, hf.rows, hl, hb, .inr ⟨rfl, _, ht, rfl⟩⟩

theorem plain_rowB {L : List Cnt} (h : ∀ y ∈ L, RowB y.l ∧ -9223372036854775808 ≤ y.n ∧ y.n ≤ 9223372036854775807) : ∀ y ∈ plainC L, RowB y.1 := by
  intro y hy
  unfold plainC at hy
  obtain ⟨z, hz, rfl⟩ := List.mem_map.mp hy
  exact (h z hz).1
theorem lp_tidy (v : Value) (L : List Cnt) (w : World) (h : CntIns w v L) : Calls Try.prog 11 #[v] w (LPost 1 (plainC L) id w) := (tidy_any v L w h).mono fun _ _ k => k.l (plain_rowB h.2.2.1)
theorem lp_neg (v : Value) (L : List Cnt) (w : World) (h : CntIns w v L) : Calls Try.prog 13 #[v] w (LPost (-1) (plainC L) id w) := (negate_any v L w h).mono fun _ _ k => k.l (plain_rowB h.2.2.1)

theorem refTidyW (v : Value) (L : List Cnt) (w : World) (h : CntIns w v L) (hn : L.length ≤ 1000) : Calls Try.prog 12 #[v] w (RefPost 1 (plainC L) w) := by
  have HS := Lib.hid (refTidy_any v L w h.1 h.2.1 h.2.2.1 hn)
  clear h
  go_enter Try.func12, Try.ntmps12
  go_wp2_with (go_at_call 35; refine HS.out.mono ?_; rintro e w' hp; have hq := Lib.hid hp; rcases hp with ⟨hb, ⟨hn, rfl⟩ | ⟨v', K, rfl, hr⟩⟩)
  all_goals
    go_ret2
    exact hq.out
theorem refNegW (v : Value) (L : List Cnt) (w : World) (h : CntIns w v L) (hn : L.length ≤ 1000) : Calls Try.prog 14 #[v] w (RefPost (-1) (plainC L) w) := by
  have HS := Lib.hid (refNeg_any v L w h.1 h.2.1 h.2.2.1 hn)
  clear h
  go_enter Try.func14, Try.ntmps14
  go_wp2_with (go_at_call 35; refine HS.out.mono ?_; rintro e w' hp; have hq := Lib.hid hp; rcases hp with ⟨hb, ⟨hn, rfl⟩ | ⟨v', K, rfl, hr⟩⟩)
  all_goals
    go_ret2
    exact hq.out

/-- Those more than 0 times there; and each of those once. -/
def posF (T : List CRow) : List CRow := T.filter fun x => decide (0 < x.2)
def disF (T : List CRow) : List CRow := (posF T).map fun x => (x.1, 1)
theorem plain_pos (K : List Cnt) : plainC (K.filter posC) = posF (plainC K) := by
  unfold plainC posF
  rw [List.filter_map]
  rfl
theorem plain_dis (K : List Cnt) : plainC ((K.filter posC).map oneC) = disF (plainC K) := by
  unfold disF
  rw [← plain_pos]
  unfold plainC
  rw [List.map_map, List.map_map]
  rfl
theorem fits_or (P : List CRow) : (∀ r, fitsB (1 * cntR P r) = true) ∨ ∃ r, fitsB (1 * cntR P r) = false := by
  rcases Classical.em (∀ r, fitsB (1 * cntR P r) = true) with h | h
  · exact .inl h
  · obtain ⟨r, hr⟩ := Classical.not_forall.mp h
    exact .inr ⟨r, by simpa using hr⟩

theorem positive_bad (v : Value) (L : List Cnt) (w : World) (h : CntIns w v L) (hf : ∃ r, fitsB (1 * cntR (plainC L) r) = false) : Calls Try.prog 16 #[v] w fun e w' => e = .returned (.tuple #[.slice none 0 0, .int .i64 30]) ∧ Below w.heap.size w w' := by
  have HT : Hid (Calls Try.prog 11 #[v] w fun e w' => e = .returned (.tuple #[.slice none 0 0, .int .i64 30]) ∧ Below w.heap.size w w') := by
    refine (tidy_any v L w h).mono ?_
    rintro e w' ⟨hb, ⟨hn, he⟩ | ⟨v', K, he, ht, ho, hfr, hl⟩⟩
    · exact ⟨he, hb⟩
    · obtain ⟨r, hr⟩ := hf
      rw [tid_fits ht r] at hr; cases hr
  clear h hf
  go_enter Try.func16, Try.ntmps16
  go_wp2_with fail
  refine HT.out.mono ?_
  rintro e w1 ⟨rfl, hb1⟩
  have HD := Lib.hid (delete_nil w1)
  go_wp2_with (go_at_call 38; refine HD.out.mono ?_; rintro e w2 ⟨rfl, hb2⟩)
  go_ret2
  exact ⟨rfl, hb1.trans (hb2.mono hb1.size)⟩
set_option maxHeartbeats 2000000 in
theorem distinct_bad (v : Value) (L : List Cnt) (w : World) (h : CntIns w v L) (hf : ∃ r, fitsB (1 * cntR (plainC L) r) = false) : Calls Try.prog 18 #[v] w fun e w' => e = .returned (.tuple #[.slice none 0 0, .int .i64 30]) ∧ Below w.heap.size w w' := by
  have HT := Lib.hid (positive_bad v L w h hf)
  clear h hf
  go_enter Try.func18, Try.ntmps18
  go_wp2_with fail
  refine HT.out.mono ?_
  rintro e w1 ⟨rfl, hb1⟩
  go_wp2_with fail
  go_loopw [14] (fun i wr => i = .int .i64 0 ∧ wr = w1) (fun _ _ => 0)
  case atStart => exact ⟨rfl, rfl⟩
  case round =>
    obtain ⟨rfl, rfl⟩ := hrel
    go_wp2
    go_ret2
    exact ⟨rfl, hb1⟩

theorem lp_pos (v : Value) (L : List Cnt) (w : World) (h : CntIns w v L) : Calls Try.prog 16 #[v] w (LPost 1 (plainC L) posF w) := by
  rcases fits_or (plainC L) with hf | hf
  · refine (positive_ok v L w h hf).mono ?_
    rintro e w' ⟨v', K, rfl, hb, ht, ho, hfr, hl⟩
    refine ⟨_, _, 0, rfl, ho.val hkC, hfr.rows (fun x hx => tid_rowB ht (plain_rowB h.2.2.1) x (List.mem_filter.mp hx).1), Nat.le_trans (List.length_filter_le _ _) hl, hb, .inr ⟨rfl, _, ht, plain_pos K⟩⟩
  · refine (positive_bad v L w h hf).mono ?_
    rintro e w' ⟨rfl, hb⟩
    exact ⟨_, [], 30, rfl, .inl ⟨rfl, rfl⟩, by intro x hx; simp at hx, Nat.zero_le _, hb, .inl ⟨rfl, rfl, hf⟩⟩
theorem lp_dis (v : Value) (L : List Cnt) (w : World) (h : CntIns w v L) : Calls Try.prog 18 #[v] w (LPost 1 (plainC L) disF w) := by
  rcases fits_or (plainC L) with hf | hf
  · refine (distinct_ok v L w h hf).mono ?_
    rintro e w' ⟨v', K, rfl, hb, ht, ho, hfr, hl⟩
    refine ⟨_, _, 0, rfl, ho.val hkC, hfr.rows ?_, ?_, hb, .inr ⟨rfl, _, ht, plain_dis K⟩⟩
    · intro x hx
      obtain ⟨y, hy, rfl⟩ := List.mem_map.mp hx
      exact tid_rowB ht (plain_rowB h.2.2.1) y (List.mem_filter.mp hy).1
    · rw [List.length_map]; exact Nat.le_trans (List.length_filter_le _ _) hl
  · refine (distinct_bad v L w h hf).mono ?_
    rintro e w' ⟨rfl, hb⟩
    exact ⟨_, [], 30, rfl, .inl ⟨rfl, rfl⟩, by intro x hx; simp at hx, Nat.zero_le _, hb, .inl ⟨rfl, rfl, hf⟩⟩

/-- What the reference's Positive and Distinct leave, in new memory. -/
def RPosPost (g : Cnt → Cnt) (P : List CRow) (w : World) (e : Ending) (w' : World) : Prop :=
  Below w.heap.size w w' ∧ (((∃ r, fitsB (1 * cntR P r) = false) ∧ ∃ v', e = .returned (.tuple #[v', .int .i64 30]) ∧ OwnC w' w.heap.size v' []) ∨
    ∃ v' K, e = .returned (.tuple #[v', .int .i64 0]) ∧ Tid 1 P (plainC K) ∧ OwnC w' w.heap.size v' ((K.filter posC).map g) ∧ CopyIn w' w.heap.size (K.filter posC) ∧ K.length ≤ P.length)
theorem pos_take (K : List Cnt) (k : Nat) (h : k < K.length) : (K.take (k + 1)).filter posC = if 0 < K[k].n then (K.take k).filter posC ++ [K[k]] else (K.take k).filter posC := by
  rw [List.take_succ_eq_append_getElem h, List.filter_append]
  by_cases hp : 0 < K[k].n
  · rw [if_pos hp, List.filter_cons_of_pos (by unfold posC; exact decide_eq_true hp), List.filter_nil]
  · rw [if_neg hp, List.filter_cons_of_neg (by unfold posC; simpa using hp), List.filter_nil, List.append_nil]

set_option maxRecDepth 100000 in
set_option maxHeartbeats 4000000 in
theorem refPos_any (v : Value) (L : List Cnt) (w : World) (h : CntIns w v L) (hn : L.length ≤ 1000) : Calls Try.prog 17 #[v] w (RPosPost id (plainC L) w) := by
  obtain ⟨i0, hi, hz0, hz1, hz2⟩ := info_parts Try.info44
  have HI := Lib.hid hi
  have HZ0 := Lib.hid hz0
  have HZ1 := Lib.hid hz1
  have HZ2 := Lib.hid hz2
  clear hi hz0 hz1 hz2
  have HS := Lib.hid (refTidyW v L w h hn)
  have hP : (plainC L).length ≤ 1000 := by unfold plainC; rw [List.length_map]; exact hn
  clear h hn
  revert hP HS
  generalize plainC L = P
  intro HS hP
  go_enter Try.func17, Try.ntmps17
  go_wp2_with fail
  refine HS.out.mono ?_
  rintro e w1 ⟨hb1, ⟨hbad, rfl⟩ | ⟨v', K, rfl, ht, ho, hc, hl⟩⟩
  · go_wp2_with fail
    go_loopw [6, 17] (fun a i wr => a = .slice (some ⟨w1.heap.size, 0, none⟩) 0 0 ∧ i = .int .i64 0 ∧ wr = w1.alloc (Obj.cells #[] 44)) (fun _ _ _ => 0)
    case atStart => exact ⟨rfl, rfl, rfl⟩
    case round =>
      obtain ⟨rfl, rfl, rfl⟩ := hrel
      go_wp2
      go_ret2
      exact ⟨hb1.alloc hb1.size _, .inl ⟨hbad, _, rfl, OwnG.more (OwnG.lit0 44 w1 _ (Nat.le_refl _)) hb1.size⟩⟩
  · obtain ⟨A, c, rfl⟩ := OwnC.shp ho
    have HT := Lib.hid ht
    have HC := Lib.hid hc
    have HAT : Hid (K = [] ∨ ∃ b off, A = some ⟨b, off, none⟩ ∧ b < w1.heap.size ∧ AtG encC 2 w1 b off K) := by
      rcases ho.val hkC with ⟨_, h⟩ | ⟨b, off, cap, h, _, hb, hat, _⟩
      · exact .inl h
      · injection h with h1 h2 h3
        exact .inr ⟨b, off, h1, hb, hat⟩
    have hK : K.length ≤ 1000 := by omega
    clear ht ho hc
    have hr0 := (Below.refl w1.heap.size w1).alloc (Nat.le_refl _) (Obj.cells #[] 44)
    go_wp2_with fail
    go_loopw [6, 17] (fun a i wr => ∃ k : Nat, k ≤ K.length ∧ i = .int .i64 k ∧ Below w1.heap.size w1 wr ∧ Hid (OwnC wr w1.heap.size a ((K.take k).filter posC))) (fun _ i _ => K.length - (intOf i).toNat)
    case atStart => exact ⟨0, Nat.zero_le _, rfl, hr0, OwnG.lit0 44 _ _ (Nat.le_refl _)⟩
    case round =>
      obtain ⟨k, hk, rfl, hb, HO⟩ := hrel
      have hz := hb.size
      by_cases hlt : k < K.length
      · obtain ⟨b, off, rfl, hbl, hat⟩ := HAT.out.resolve_left (by rintro rfl; simp at hlt)
        have e0 := (hb.cell (p := ⟨b, off + k * 2 + 0, none⟩) hbl).trans (hat k _ (List.getElem?_eq_getElem hlt) 0 _ rfl)
        have e1 := (hb.cell (p := ⟨b, off + k * 2 + 1, none⟩) hbl).trans (hat k _ (List.getElem?_eq_getElem hlt) 1 _ rfl)
        rw [Nat.add_zero] at e0
        have HX := Lib.hid (pos_take K k hlt)
        obtain ⟨Ay, ny, cy, hyv⟩ := ownD_shape (HC.out _ (List.getElem_mem hlt))
        have hlk : ((K.take k).filter posC).length ≤ 1000 := Nat.le_trans (List.length_filter_le _ _) (by rw [List.length_take]; omega)
        clear hat
        revert HX; revert e1; revert e0; revert hyv
        generalize K[k] = x
        obtain ⟨xv, xl, xn⟩ := x
        intro hyv e0 e1 HX
        simp only at hyv e0 e1 HX
        subst hyv
        by_cases hp : 0 < xn
        · rw [if_pos hp] at HX
          have hb7 := (hb.alloc hz (.cells #[.slice Ay ny cy, .int .i64 xn] 44)).alloc (by simp; omega) (.cells #[.slice Ay ny cy, .int .i64 xn] 44)
          have HO7 := Lib.hid ((HO.out.alloc (.cells #[.slice Ay ny cy, .int .i64 xn] 44)).alloc (.cells #[.slice Ay ny cy, .int .i64 xn] 44))
          have HV7 := Lib.hid (valC_at (wr.alloc (.cells #[.slice Ay ny cy, .int .i64 xn] 44)) (wr.heap.size + 1) ⟨.slice Ay ny cy, xl, xn⟩ (by simp))
          go_wp2_with (at_builtin; refine wpList_append_g hkC (by decide) 22 44 i0 _ 32 Try.underlying22 HI.out HZ0.out HZ1.out HZ2.out rfl _ rfl (.tmp 24) (.tmp 26) rfl w1.heap.size _ _ ((K.take k).filter posC) [⟨.slice Ay ny cy, xl, xn⟩] rfl rfl HO7.out HV7.out (one_cnt _ _ _ _ _) (by unfold maxLen; simp only [List.length_singleton]; omega) (by simp only [List.length_singleton]; omega) hb7.size ?_; intro v8 w8 ho8 hg8)
          have hb8 := hb7.trans (OwnG.grown HO7.out hb7.size hg8)
          go_roundw
          case rel => exact ⟨k + 1, by omega, by go_num, hb8, by rw [HX.out]; exact ho8⟩
          case measure => simp [intOf]; omega
        · rw [if_neg hp] at HX
          go_wp2_with fail
          go_roundw
          case rel => exact ⟨k + 1, by omega, by go_num, hb.alloc hz _, by rw [HX.out]; exact HO.out.alloc _⟩
          case measure => simp [intOf]; omega
      · obtain rfl : k = K.length := by omega
        have HO1 := HO
        rw [List.take_length] at HO1
        go_wp2_with fail
        go_ret2
        refine ⟨hb1.trans (hb.mono hb1.size), .inr ⟨_, K, rfl, HT.out, ?_, ?_, hl⟩⟩
        · rw [List.map_id]
          exact OwnG.more HO1.out hb1.size
        · intro x hx
          exact (HC.out x (List.mem_filter.mp hx).1).below hb

set_option maxRecDepth 100000 in
set_option maxHeartbeats 4000000 in
theorem refDis_any (v : Value) (L : List Cnt) (w : World) (h : CntIns w v L) (hn : L.length ≤ 1000) : Calls Try.prog 19 #[v] w (RPosPost oneC (plainC L) w) := by
  have HS := Lib.hid (refPos_any v L w h hn)
  have hP : (plainC L).length ≤ 1000 := by unfold plainC; rw [List.length_map]; exact hn
  clear h hn
  revert hP HS
  generalize plainC L = P
  intro HS hP
  go_enter Try.func19, Try.ntmps19
  go_wp2_with fail
  refine HS.out.mono ?_
  rintro e w1 ⟨hb1, ⟨hbad, v', rfl, ho⟩ | ⟨v', K, rfl, ht, ho, hc, hl⟩⟩
  · obtain ⟨A, c, rfl⟩ := OwnC.shp ho
    go_wp2_with fail
    go_loopw [14] (fun i wr => i = .int .i64 0 ∧ wr = w1) (fun _ _ => 0)
    case atStart => exact ⟨rfl, rfl⟩
    case round =>
      obtain ⟨rfl, rfl⟩ := hrel
      go_wp2
      go_ret2
      exact ⟨hb1, .inl ⟨hbad, _, rfl, ho⟩⟩
  · rw [List.map_id] at ho
    have HFIN : Hid (∀ v2 w2, OwnC w2 w.heap.size v2 ((K.filter posC).map oneC) → CopyIn w2 w.heap.size (K.filter posC) → Below w.heap.size w w2 → RPosPost oneC P w (.returned (.tuple #[v2, .int .i64 0])) w2) := fun v2 w2 ho2 hc2 hb2 =>
      ⟨hb2, .inr ⟨_, K, rfl, ht, ho2, hc2, hl⟩⟩
    have hM : (K.filter posC).length ≤ 1000 := by
      have h1 := List.length_filter_le posC K
      omega
    clear ht hl HS
    revert HFIN; revert hM; revert hc; revert ho
    generalize K.filter posC = M
    intro ho hc hM HFIN
    obtain ⟨A, c, rfl, HA⟩ : ∃ A c, v' = .slice A M.length c ∧ Hid (M = [] ∨ ∃ g, A = some ⟨g, 0, none⟩ ∧ w.heap.size ≤ g ∧ g < w1.heap.size) := by
      rcases ho.shape with ⟨rfl, rfl⟩ | ⟨g, cap, rfl, hbg, hgw, _⟩
      · exact ⟨none, 0, rfl, .inl rfl⟩
      · exact ⟨_, _, rfl, .inr ⟨g, rfl, hbg, hgw⟩⟩
    have HO := Lib.hid ho
    have HFR := Lib.hid hc
    clear ho hc
    go_wp2_with fail
    go_loopw [14] (fun i wr => ∃ k : Nat, k ≤ M.length ∧ i = .int .i64 k ∧ Below w.heap.size w wr ∧ Hid (OwnC wr w.heap.size (.slice A M.length c) (ones M k) ∧ CopyIn wr w.heap.size M)) (fun i _ => M.length - (intOf i).toNat)
    case atStart => exact ⟨0, Nat.zero_le _, rfl, hb1, ⟨by unfold ones; simpa using HO.out, HFR.out⟩⟩
    case round =>
      obtain ⟨k, hk, rfl, hb, HM⟩ := hrel
      by_cases hlt : k < M.length
      · obtain ⟨g, rfl, hbg, _⟩ := HA.out.resolve_left (by rintro rfl; simp at hlt)
        have hat := HM.out.1.at (ones_len M k)
        have e1 := hat k _ (ones_get M k hlt) 1 _ rfl
        rw [Nat.zero_add] at e1
        have q1 : wr.frozen? ⟨g, k * 2 + 1, none⟩ = false := World.ownsRow.frozenAt (by have := HM.out.1; unfold OwnC OwnG at this; rw [ones_len M k] at this; exact this) _
        have HPUT : Hid (OwnC (wr.setCell ⟨g, k * 2 + 1, none⟩ (.int .i64 1)) w.heap.size (.slice (some ⟨g, 0, none⟩) M.length c) (ones M (k + 1)) ∧ CopyIn (wr.setCell ⟨g, k * 2 + 1, none⟩ (.int .i64 1)) w.heap.size M) := by
          have h1 := OwnC.putN HM.out.1 (ones_len M k) _ (ones_get M k hlt) 1
          have h2 : (ones M k).set k ⟨M[k].v, M[k].l, 1⟩ = ones M (k + 1) := ones_set M k hlt
          rw [h2] at h1
          exact ⟨h1, HM.out.2.kept HM.out.1 (grown_set ⟨rfl, rfl, rfl, Nat.le_refl _, fun _ _ _ => rfl⟩ _ _)⟩
        clear hat
        revert e1
        generalize M[k].n = n0
        intro e1
        clear HM
        go_wp2
        go_roundw
        case rel => exact ⟨k + 1, by omega, by go_num, hb.setCell hbg _, HPUT.out⟩
        case measure => simp [intOf]; omega
      · obtain rfl : k = M.length := by omega
        have HD : Hid (RPosPost oneC P w (.returned (.tuple #[.slice A M.length c, .int .i64 0])) wr) := by
          refine HFIN.out _ _ ?_ HM.out.2 hb
          have := HM.out.1
          rwa [ones_all] at this
        clear HM HFIN
        go_wp2
        go_ret2
        exact HD.out

theorem RPosPost.pos {P : List CRow} {w : World} {e : Ending} {w' : World} (h : RPosPost id P w e w') : LPost 1 P posF w e w' := by
  obtain ⟨hb, ⟨hn, v', rfl, ho⟩ | ⟨v', K, rfl, ht, ho, hf, hl⟩⟩ := h
  · exact ⟨_, [], 30, rfl, ho.val hkC, by intro x hx; simp at hx, Nat.zero_le _, hb, .inl ⟨rfl, rfl, hn⟩⟩
  · rw [List.map_id] at ho
    exact ⟨_, _, 0, rfl, ho.val hkC, hf.rows, Nat.le_trans (List.length_filter_le _ _) hl, hb, .inr ⟨rfl, _, ht, plain_pos K⟩⟩
theorem RPosPost.dis {P : List CRow} {w : World} {e : Ending} {w' : World} (h : RPosPost oneC P w e w') : LPost 1 P disF w e w' := by
  obtain ⟨hb, ⟨hn, v', rfl, ho⟩ | ⟨v', K, rfl, ht, ho, hf, hl⟩⟩ := h
  · exact ⟨_, [], 30, rfl, ho.val hkC, by intro x hx; simp at hx, Nat.zero_le _, hb, .inl ⟨rfl, rfl, hn⟩⟩
  · refine ⟨_, _, 0, rfl, ho.val hkC, ?_, ?_, hb, .inr ⟨rfl, _, ht, plain_dis K⟩⟩
    · intro x hx
      obtain ⟨y, hy, rfl⟩ := List.mem_map.mp hx
      exact hf.rows y hy
    · rw [List.length_map]; exact Nat.le_trans (List.length_filter_le _ _) hl
theorem lp_rtidy (v : Value) (L : List Cnt) (w : World) (h : CntIns w v L) (hn : L.length ≤ 1000) : Calls Try.prog 12 #[v] w (LPost 1 (plainC L) id w) := (refTidyW v L w h hn).mono fun _ _ k => k.l
theorem lp_rneg (v : Value) (L : List Cnt) (w : World) (h : CntIns w v L) (hn : L.length ≤ 1000) : Calls Try.prog 14 #[v] w (LPost (-1) (plainC L) id w) := (refNegW v L w h hn).mono fun _ _ k => k.l
theorem lp_rpos (v : Value) (L : List Cnt) (w : World) (h : CntIns w v L) (hn : L.length ≤ 1000) : Calls Try.prog 17 #[v] w (LPost 1 (plainC L) posF w) := (refPos_any v L w h hn).mono fun _ _ k => k.pos
theorem lp_rdis (v : Value) (L : List Cnt) (w : World) (h : CntIns w v L) (hn : L.length ≤ 1000) : Calls Try.prog 19 #[v] w (LPost 1 (plainC L) disF w) := (refDis_any v L w h hn).mono fun _ _ k => k.dis

end Go.Proofs.Ytciijaejldfcaaa
