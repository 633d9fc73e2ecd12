/-
  The contracts of zset's Positive and Distinct, where all has room.
-/
import Derived.Test.YtciijaejldfcaaaDel
import Derived.Test.YtciijaejldfcaaaGrpP
namespace Go.Proofs.Ytciijaejldfcaaa
open Go.RowKit

/-- What is there more than 0 times of a tidy list comes back, in new memory. -/
def PosOk (P : List CRow) (w : World) (e : Ending) (w' : World) : Prop :=
  ∃ v' K, e = .returned (.tuple #[v', .int .i64 0]) ∧ Below w.heap.size w w' ∧ Tid 1 P (plainC K) ∧ OwnC w' w.heap.size v' (K.filter posC) ∧ FreshIn w' w.heap.size (K.filter posC) ∧ K.length ≤ P.length

theorem FreshIn.shp {w : World} {base : Nat} {K : List Cnt} (h : FreshIn w base K) : ShpIn K := fun x hx => by
  obtain ⟨b, e, _⟩ := h x hx
  exact ⟨_, _, _, e⟩
theorem FreshIn.filter {w : World} {base : Nat} {K : List Cnt} (h : FreshIn w base K) : FreshIn w base (K.filter posC) := fun x hx => h x (List.mem_filter.mp hx).1

theorem delete_nil (w : World) : Calls Try.prog 38 #[.slice none 0 0, .func (.func 39) #[] #[]] w fun e w' => e = .returned (.slice none 0 0) ∧ Below w.heap.size w w' := by
  have HIX : Hid (Calls Try.prog 60 #[.slice none 0 0, .func (.func 39) #[] #[]] w fun e w' => e = .returned (.int .i64 (-1)) ∧ Below w.heap.size w w') := by
    refine (index_any none 0 [] w (.inl rfl) (by intro x hx; simp at hx) (by simp)).mono ?_
    rintro e w' ⟨hb, ⟨rfl, _⟩ | ⟨k, hk, _⟩⟩
    · exact ⟨rfl, hb⟩
    · simp at hk
  go_enter Try.func38, Try.ntmps38
  go_wp2_with (go_at_call 60; refine HIX.out.mono ?_; rintro e w1 ⟨rfl, hb1⟩)
  go_ret
  exact ⟨rfl, hb1⟩

set_option maxRecDepth 100000 in
theorem positive_ok (v : Value) (L : List Cnt) (w : World) (h : CntIns w v L) (hf : ∀ r, fitsB (1 * cntR (plainC L) r) = true) : Calls Try.prog 16 #[v] w (PosOk (plainC L) w) := by
  have HT := Lib.hid (tidy_ok v L w h hf)
  have HL : Hid ((plainC L).length ≤ 1000000) := by unfold Hid plainC; rw [List.length_map]; exact h.2.2.2
  clear h hf
  go_enter Try.func16, Try.ntmps16
  go_wp2_with fail
  refine HT.out.mono ?_
  rintro e w1 ⟨v1, K, rfl, hb1, ht, ho, hfr, hl⟩
  rcases ho.shape with ⟨rfl, rfl⟩ | ⟨g, cap, rfl, hbg, hgw, _⟩
  · have HD := Lib.hid (delete_nil w1)
    have HF : Hid (∀ w2, Below w1.heap.size w1 w2 → PosOk (plainC L) w (.returned (.tuple #[.slice none 0 0, .int .i64 0])) w2) := fun w2 h2 =>
      ⟨_, [], rfl, hb1.trans (h2.mono hb1.size), ht, OwnG.nil 44 _ _, by intro x hx; simp at hx, hl⟩
    clear ht ho hfr hl HT HL
    go_wp2_with (go_at_call 38; refine HD.out.mono ?_; rintro e w2 ⟨rfl, hb2⟩)
    go_ret2
    exact HF.out _ hb2
  · have HD := Lib.hid (delete_any w.heap.size g cap K w1 ho hfr.shp (by have := HL.out; omega))
    have HF : Hid (∀ v2 w2, OwnC w2 w.heap.size v2 (K.filter posC) → w1.grownBy w2 (some g) → PosOk (plainC L) w (.returned (.tuple #[v2, .int .i64 0])) w2) := fun v2 w2 ho2 hg2 =>
      ⟨_, K, rfl, hb1.trans ((Below.refl w.heap.size w1).grown hg2 hb1.size (fun k hk => by injection hk with hk; omega)), ht, ho2, (hfr.filter.kept ho hg2), hl⟩
    clear ht ho hfr hl HT HL
    go_wp2_with (go_at_call 38; refine HD.out.mono ?_; rintro e w2 ⟨v2, rfl, ho2, hg2, _⟩)
    go_ret2
    exact HF.out _ _ ho2 hg2

/-- A row told once. -/
def oneC (x : Cnt) : Cnt := ⟨x.v, x.l, 1⟩
/-- The first k told once. -/
def ones (K : List Cnt) (k : Nat) : List Cnt := (K.take k).map oneC ++ K.drop k
theorem ones_len (K : List Cnt) (k : Nat) : (ones K k).length = K.length := by unfold ones; rw [List.length_append, List.length_map, List.length_take, List.length_drop]; omega
theorem ones_get (K : List Cnt) (k : Nat) (h : k < K.length) : (ones K k)[k]? = some K[k] := by
  unfold ones
  have e : ((K.take k).map oneC).length = k := by rw [List.length_map, List.length_take]; omega
  rw [List.getElem?_append_right (by omega), e, Nat.sub_self, List.getElem?_drop, Nat.add_zero, List.getElem?_eq_getElem h]
theorem ones_set (K : List Cnt) (k : Nat) (h : k < K.length) : (ones K k).set k (oneC K[k]) = ones K (k + 1) := by
  unfold ones
  have e : ((K.take k).map oneC).length = k := by rw [List.length_map, List.length_take]; omega
  rw [List.set_append, if_neg (by omega), e, Nat.sub_self, List.drop_eq_getElem_cons h, List.set_cons_zero, List.take_succ_eq_append_getElem h, List.map_append, List.append_assoc]
  rfl
theorem ones_all (K : List Cnt) : ones K K.length = K.map oneC := by unfold ones; simp

theorem cells_setN : ∀ (l : List Cnt) (k : Nat) (x : Cnt) (n : Int), l[k]? = some x → (l.flatMap encC).set (k * 2 + 1) (.int .i64 n) = (l.set k ⟨x.v, x.l, n⟩).flatMap encC
  | [], k, x, n, h => by simp at h
  | e :: l, 0, x, n, h => by
    simp only [List.getElem?_cons_zero, Option.some.injEq] at h
    subst h
    simp [encC]
  | e :: l, k + 1, x, n, h => by
    rw [List.getElem?_cons_succ] at h
    have ih := cells_setN l k x n h
    have e1 : (k + 1) * 2 = k * 2 + 1 + 1 := by omega
    rw [List.set_cons_succ, List.flatMap_cons, List.flatMap_cons, ← ih, e1]
    simp [encC]

theorem OwnC.putN {w : World} {base g n cap i : Nat} {K : List Cnt} (h : OwnC w base (.slice (some ⟨g, 0, none⟩) n cap) K) (hn : K.length = n) (x : Cnt) (hx : K[i]? = some x) (m : Int) :
    OwnC (w.setCell ⟨g, i * 2 + 1, none⟩ (.int .i64 m)) base (.slice (some ⟨g, 0, none⟩) n cap) (K.set i ⟨x.v, x.l, m⟩) := by
  subst hn
  have h3 := (World.ownsRow.stored h (i * 2 + 1) (.int .i64 m)).1
  rw [cells_setN K i x m hx] at h3
  unfold OwnC OwnG
  rw [List.length_set]
  exact h3

/-- What is there more than 0 times comes back, each once, in new memory. -/
def DisOk (P : List CRow) (w : World) (e : Ending) (w' : World) : Prop :=
  ∃ v' K, e = .returned (.tuple #[v', .int .i64 0]) ∧ Below w.heap.size w w' ∧ Tid 1 P (plainC K) ∧ OwnC w' w.heap.size v' ((K.filter posC).map oneC) ∧ FreshIn w' w.heap.size ((K.filter posC).map oneC) ∧ K.length ≤ P.length

set_option maxRecDepth 100000 in
set_option maxHeartbeats 2000000 in
theorem distinct_ok (v : Value) (L : List Cnt) (w : World) (h : CntIns w v L) (hf : ∀ r, fitsB (1 * cntR (plainC L) r) = true) : Calls Try.prog 18 #[v] w (DisOk (plainC L) w) := by
  have HT := Lib.hid (positive_ok v L w h hf)
  have HL : Hid ((plainC L).length ≤ 1000000) := by unfold Hid plainC; rw [List.length_map]; exact h.2.2.2
  clear h hf
  go_enter Try.func18, Try.ntmps18
  go_wp2_with fail
  refine HT.out.mono ?_
  rintro e w1 ⟨v1, K, rfl, hb1, ht, ho, hfr, hl⟩
  have HFIN : Hid (∀ v2 w2, OwnC w2 w.heap.size v2 ((K.filter posC).map oneC) → FreshIn w2 w.heap.size ((K.filter posC).map oneC) → Below w.heap.size w w2 → DisOk (plainC L) w (.returned (.tuple #[v2, .int .i64 0])) w2) := fun v2 w2 ho2 hf2 hb2 =>
    ⟨_, K, rfl, hb2, ht, ho2, hf2, hl⟩
  have hM : (K.filter posC).length ≤ 1000000 := by
    have h1 := List.length_filter_le posC K
    have := HL.out
    omega
  clear ht hl HT HL
  revert HFIN ho hfr hM
  generalize K.filter posC = M
  intro ho hfr HFIN hM
  obtain ⟨A, c, rfl, HA⟩ : ∃ A c, v1 = .slice A M.length c ∧ Hid (M = [] ∨ ∃ g, A = some ⟨g, 0, none⟩ ∧ w.heap.size ≤ g ∧ g < w1.heap.size) := by
    rcases ho.shape with ⟨rfl, rfl⟩ | ⟨g, cap, rfl, hbg, hgw, _⟩
    · exact ⟨none, 0, rfl, .inl rfl⟩
    · exact ⟨_, _, rfl, .inr ⟨g, rfl, hbg, hgw⟩⟩
  have HO := Lib.hid ho
  have HFR := Lib.hid hfr
  clear ho hfr
  go_wp2_with fail
  go_loopw [14] (fun i wr => ∃ k : Nat, k ≤ M.length ∧ i = .int .i64 k ∧ Below w.heap.size w wr ∧ Hid (OwnC wr w.heap.size (.slice A M.length c) (ones M k) ∧ FreshIn wr w.heap.size M)) (fun i _ => M.length - (intOf i).toNat)
  case atStart => exact ⟨0, Nat.zero_le _, rfl, hb1, ⟨by unfold ones; simpa using HO.out, HFR.out⟩⟩
  case round =>
    obtain ⟨k, hk, rfl, hb, HM⟩ := hrel
    by_cases hlt : k < M.length
    · obtain ⟨g, rfl, hbg, _⟩ := HA.out.resolve_left (by rintro rfl; simp at hlt)
      have hat := HM.out.1.at (ones_len M k)
      have e1 := hat k _ (ones_get M k hlt) 1 _ rfl
      rw [Nat.zero_add] at e1
      have q1 : wr.frozen? ⟨g, k * 2 + 1, none⟩ = false := World.ownsRow.frozenAt (by have := HM.out.1; unfold OwnC OwnG at this; rw [ones_len M k] at this; exact this) _
      have HPUT : Hid (OwnC (wr.setCell ⟨g, k * 2 + 1, none⟩ (.int .i64 1)) w.heap.size (.slice (some ⟨g, 0, none⟩) M.length c) (ones M (k + 1)) ∧ FreshIn (wr.setCell ⟨g, k * 2 + 1, none⟩ (.int .i64 1)) w.heap.size M) := by
        have h1 := OwnC.putN HM.out.1 (ones_len M k) _ (ones_get M k hlt) 1
        have h2 : (ones M k).set k ⟨M[k].v, M[k].l, 1⟩ = ones M (k + 1) := ones_set M k hlt
        rw [h2] at h1
        exact ⟨h1, HM.out.2.kept HM.out.1 (grown_set ⟨rfl, rfl, rfl, Nat.le_refl _, fun _ _ _ => rfl⟩ _ _)⟩
      clear hat
      revert e1
      generalize M[k].n = n0
      intro e1
      clear HM
      go_wp2
      go_roundw
      case rel => exact ⟨k + 1, by omega, by go_num, hb.setCell hbg _, HPUT.out⟩
      case measure => simp [intOf]; omega
    · obtain rfl : k = M.length := by omega
      have HD : Hid (DisOk (plainC L) w (.returned (.tuple #[.slice A M.length c, .int .i64 0])) wr) := by
        refine HFIN.out _ _ ?_ ?_ hb
        · have := HM.out.1
          rwa [ones_all] at this
        · intro x hx
          obtain ⟨y, hy, rfl⟩ := List.mem_map.mp hx
          exact HM.out.2 y hy
      clear HM HFIN
      go_wp2
      go_ret2
      exact HD.out

end Go.Proofs.Ytciijaejldfcaaa
