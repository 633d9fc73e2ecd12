/-
  slices.DeleteFunc at counted rows, with the closure of Positive: what is there more than 0 times is kept, in place.
-/
import Derived.Test.YtciijaejldfcaaaLawP
import Derived.Lib.SliceRun
import Derived.Laws.CopyRow
namespace Go.Proofs.Ytciijaejldfcaaa
open Go.RowKit

/-- Is it there more than 0 times? -/
def posC (x : Cnt) : Bool := decide (0 < x.n)

theorem cells_set2 : ∀ (l : List Cnt) (k : Nat) (x : Cnt), k < l.length → (((l.flatMap encC).set (k * 2) x.v).set (k * 2 + 1) (.int .i64 x.n)) = (l.set k x).flatMap encC
  | [], k, x, h => by simp at h
  | e :: l, 0, x, _ => by simp [encC]
  | e :: l, k + 1, x, h => by
    have ih := cells_set2 l k x (by simp at h; omega)
    have e1 : (k + 1) * 2 = k * 2 + 1 + 1 := by omega
    rw [List.set_cons_succ, List.flatMap_cons, List.flatMap_cons, ← ih, e1]
    simp [encC]

/-- A counted row stored into a list of the call's own. -/
theorem OwnC.put {w : World} {base g n cap i : Nat} {K : List Cnt} (h : OwnC w base (.slice (some ⟨g, 0, none⟩) n cap) K) (hn : K.length = n) (hi : i < K.length) (x : Cnt) :
    OwnC ((w.setCell ⟨g, i * 2, none⟩ x.v).setCell ⟨g, i * 2 + 1, none⟩ (.int .i64 x.n)) base (.slice (some ⟨g, 0, none⟩) n cap) (K.set i x) := by
  subst hn
  have h3 := (World.ownsRow.stored (World.ownsRow.stored h (i * 2) x.v).1 (i * 2 + 1) (.int .i64 x.n)).1
  rw [cells_set2 K i x hi] at h3
  unfold OwnC OwnG
  rw [List.length_set]
  exact h3

theorem run_clear_own (w : World) (base g n cap i : Nat) (M : List Cnt) (ho : OwnC w base (.slice (some ⟨g, 0, none⟩) n cap) M) (hM : M.length = n) (hi : i < n) :
    ∃ w', (∀ ty, (Builtin.clear_ #[22] ty #[.slice (some ⟨g, i * 2, none⟩) (n - i) (cap - i)]).run Try.prog w = .ok (.tuple #[]) w') ∧ OwnC w' base (.slice (some ⟨g, 0, none⟩) i cap) (M.take i) ∧ w.grownBy w' (some g) := by
  subst hM
  rcases ho.2 with ⟨h, _⟩ | ⟨g', cap', cur, h, hbg, hh, hn, hc, hs, ht⟩
  · cases h
  · injection h with h1 h2 h3
    injection h1 with h1
    injection h1 with h4 h5
    subst h4 h3
    have hz : ∀ w, (zeroValue 44).run Try.prog w = .ok (.agg #[.slice none 0 0, .int .i64 0]) w := fun w => by kernel_rfl
    obtain ⟨vs, hvs, hvl, hv1⟩ : ∃ vs, (Builtin.zeroCells (Value.agg #[.slice none 0 0, .int .i64 0]).cells (M.length - i)).toList = vs ∧ vs.length = (M.length - i) * 2 ∧ ∀ v ∈ vs, v.oneCell' = true := by
      refine ⟨_, rfl, ?_, ?_⟩
      · simp [Builtin.zeroCells, Value.cells]
      · intro v hv
        simp [Builtin.zeroCells, Value.cells] at hv
        obtain ⟨q, _, rfl⟩ := hv
        have : q % 2 < 2 := Nat.mod_lt _ (by decide)
        generalize q % 2 = r at this
        match r, this with
        | 0, _ => rfl
        | 1, _ => rfl
    have hst := run_storeCells_at Try.prog g (i * 2) 44 vs 0 cur w hh (by rw [hvl, hs]; omega) hv1
    refine ⟨w.setRow g (List.take (i * 2 + 0) cur.toList ++ vs ++ List.drop (i * 2 + 0 + vs.length) cur.toList).toArray, fun ty => ?_, ?_, ?_⟩
    · obtain ⟨m, hm⟩ : ∃ m, M.length - i = m + 1 := ⟨M.length - i - 1, by omega⟩
      rw [hm] at hvs ⊢
      simp [Builtin.clear_, run_underlying Try.underlying22, hz, hvs, hst]
    · have hl : (M.take i).length = i := by rw [List.length_take]; omega
      unfold OwnC OwnG
      rw [hl]
      refine ⟨by rw [encs_len encC 2 hkC, hl], .inr ⟨g, cap, _, rfl, hbg, setRow_heap w g cur _ 44 _ hh, by omega, hc, ?_, ?_⟩⟩
      · simp only [List.size_toArray, List.length_append, List.length_take, List.length_drop, Array.length_toList, hvl, hs]
        omega
      · rw [Nat.add_zero, List.append_assoc, List.take_append_of_le_length (by rw [List.length_take, Array.length_toList, hs]; omega), List.take_take, Nat.min_self]
        have e1 := congrArg (List.take (i * 2)) ht
        rw [List.take_take, Nat.min_eq_left (by omega)] at e1
        rw [e1]
        have e2 : M.flatMap encC = (M.take i).flatMap encC ++ (M.drop i).flatMap encC := by rw [← List.flatMap_append, List.take_append_drop]
        rw [e2, List.take_append_of_le_length (by rw [encs_len encC 2 hkC, hl]; exact Nat.le_refl _)]
        rw [List.take_of_length_le (by rw [encs_len encC 2 hkC, hl]; exact Nat.le_refl _)]
    · refine ⟨rfl, rfl, rfl, ?_, fun k hk hne => ?_⟩
      · simp [World.setRow]
      · simp only [World.setRow, Array.getElem?_modify]
        rw [if_neg (by rintro rfl; exact hne rfl)]

theorem neg_any (A : Option Addr) (l c : Nat) (n : Int) (w : World) : Calls Try.prog 39 #[.agg #[.slice A l c, .int .i64 n]] w fun e w' => e = .returned (.bool (!decide (0 < n))) ∧ Below w.heap.size w w' := by
  by_cases h : 0 < n
  · have h1 : ¬ n ≤ 0 := by omega
    have hd : decide (0 < n) = true := decide_eq_true h
    go_enter Try.func39, Try.ntmps39
    go_wp2
    go_ret
    exact ⟨by simp, (Below.refl _ _).alloc (Nat.le_refl _) _⟩
  · have h1 : n ≤ 0 := by omega
    go_enter Try.func39, Try.ntmps39
    go_wp2
    go_ret
    exact ⟨by simp [h], (Below.refl _ _).alloc (Nat.le_refl _) _⟩


/-- Each row's value is a slice. -/
def ShpIn (K : List Cnt) : Prop := ∀ x ∈ K, ∃ A n c, x.v = .slice A n c

set_option maxRecDepth 100000 in
theorem index_any (A : Option Addr) (cap : Nat) (K : List Cnt) (w : World) (hA : K = [] ∨ ∃ b off, A = some ⟨b, off, none⟩ ∧ b < w.heap.size ∧ AtG encC 2 w b off K) (hs : ShpIn K) (hl : K.length ≤ 1000000) :
    Calls Try.prog 60 #[.slice A K.length cap, .func (.func 39) #[] #[]] w fun e w' => Below w.heap.size w w' ∧
      ((e = .returned (.int .i64 (-1)) ∧ ∀ x ∈ K, posC x = true) ∨ ∃ k : Nat, ∃ h : k < K.length, e = .returned (.int .i64 k) ∧ posC K[k] = false ∧ ∀ x ∈ K.take k, posC x = true) := by
  have HA := Lib.hid hA
  have HS := Lib.hid hs
  clear hA hs
  go_enter Try.func60, Try.ntmps60
  go_wp2
  go_loopw [8] (fun i wr => ∃ k : Nat, k ≤ K.length ∧ i = .int .i64 k ∧ Below w.heap.size w wr ∧ Hid (∀ x ∈ K.take k, posC x = true)) (fun i _ => K.length - (intOf i).toNat)
  case atStart => exact ⟨0, Nat.zero_le _, rfl, Below.refl _ _, by intro x hx; simp at hx⟩
  case round =>
    obtain ⟨k, hk, rfl, hb, HP⟩ := hrel
    have hz := hb.size
    by_cases hlt : k < K.length
    · obtain ⟨b, off, rfl, hbl, hat⟩ := HA.out.resolve_left (by rintro rfl; simp at hlt)
      have e0 := (hb.cell (p := ⟨b, off + k * 2 + 0, none⟩) hbl).trans (hat k _ (List.getElem?_eq_getElem hlt) 0 _ rfl)
      have e1 := (hb.cell (p := ⟨b, off + k * 2 + 1, none⟩) hbl).trans (hat k _ (List.getElem?_eq_getElem hlt) 1 _ rfl)
      rw [Nat.add_zero] at e0
      obtain ⟨Ax, nx, cx, hxv⟩ := HS.out _ (List.getElem_mem hlt)
      rw [hxv] at e0
      have HPOS : Hid (posC K[k] = decide (0 < K[k].n)) := rfl
      have HT : Hid (∀ x ∈ K.take (k + 1), x ∈ K.take k ∨ x = K[k]) := by
        intro x hx
        rw [List.take_succ_eq_append_getElem hlt] at hx
        rcases List.mem_append.mp hx with h | h
        · exact .inl h
        · simp only [List.mem_singleton] at h; exact .inr h
      clear hat hxv
      revert e0 e1 HPOS
      generalize K[k].n = xn
      intro e0 e1 HPOS
      have HN : Hid (∀ W, Calls Try.prog 39 #[.agg #[.slice Ax nx cx, .int .i64 xn]] W fun e w' => e = .returned (.bool (!decide (0 < xn))) ∧ Below W.heap.size W w') := fun W => neg_any Ax nx cx xn W
      by_cases hp : 0 < xn
      · rw [decide_eq_true hp] at HN HPOS
        simp only [Bool.not_true] at HN
        clear hp
        go_wp2_with (go_at_call 39; refine (HN.out _).mono ?_; rintro e w1 ⟨rfl, hb1⟩)
        go_roundw
        case rel => exact ⟨k + 1, by omega, by go_num, hb.trans (hb1.mono hz), fun x hx => by
          rcases HT.out x hx with h | h
          · exact HP.out x h
          · rw [h]; exact HPOS.out⟩
        case measure => simp [intOf]; omega
      · rw [decide_eq_false hp] at HN HPOS
        simp only [Bool.not_false] at HN
        clear hp
        go_wp2_with (go_at_call 39; refine (HN.out _).mono ?_; rintro e w1 ⟨rfl, hb1⟩)
        go_ret
        exact ⟨hb.trans (hb1.mono hz), .inr ⟨k, hlt, rfl, HPOS.out, HP.out⟩⟩
    · obtain rfl : k = K.length := by omega
      have HP2 : Hid (∀ x ∈ K, posC x = true) := by have := HP.out; rwa [List.take_length] at this
      clear HP
      go_wp2
      go_ret
      exact ⟨hb, .inl ⟨rfl, HP2.out⟩⟩

theorem grown_below {a b w : World} {g : Nat} (h : w.grownBy a (some g)) (hb : Below a.heap.size a b) : w.grownBy b (some g) :=
  ⟨hb.os.trans h.os, hb.tape.trans h.tape, hb.output.trans h.output, Nat.le_trans h.size hb.size, fun k hk hne => (hb.block k (Nat.lt_of_lt_of_le hk h.size)).trans (h.block k hk hne)⟩
theorem OwnC.at {w : World} {base g n cap : Nat} {M : List Cnt} (h : OwnC w base (.slice (some ⟨g, 0, none⟩) n cap) M) (hn : M.length = n) : AtG encC 2 w g 0 M := by
  subst hn
  rcases h.val hkC with ⟨h, _⟩ | ⟨b, off, c, h, _, _, hat, _⟩
  · cases h
  · injection h with e1 e2 e3
    injection e1 with e1
    injection e1 with e4 e5
    subst e4 e5
    exact hat

theorem filter_all {K : List Cnt} (h : ∀ x ∈ K, posC x = true) : K.filter posC = K := List.filter_eq_self.mpr h

/-- The places of the list behind j rounds: the kept ones, and from j on what was there. -/
def Part (K M : List Cnt) (i j : Nat) : Prop := M.length = K.length ∧ M.take i = (K.take j).filter posC ∧ M.drop j = K.drop j

theorem Part.get {K M : List Cnt} {i j : Nat} (h : Part K M i j) (hj : j < K.length) : M[j]? = some K[j] := by
  have e : (M.drop j)[0]? = (K.drop j)[0]? := by rw [h.2.2]
  rw [List.getElem?_drop, List.getElem?_drop, Nat.add_zero, List.getElem?_eq_getElem hj] at e
  exact e
theorem Part.skip {K M : List Cnt} {i j : Nat} (h : Part K M i j) (hj : j < K.length) (hp : posC K[j] = false) : Part K M i (j + 1) := by
  refine ⟨h.1, ?_, ?_⟩
  · rw [h.2.1, List.take_succ_eq_append_getElem hj, List.filter_append]
    simp [hp]
  · have := congrArg (List.drop 1) h.2.2
    rwa [List.drop_drop, List.drop_drop] at this
theorem Part.keep {K M : List Cnt} {i j : Nat} (h : Part K M i j) (hij : i < j) (hj : j < K.length) (hp : posC K[j] = true) : Part K (M.set i K[j]) (i + 1) (j + 1) := by
  have hi : i < M.length := by rw [h.1]; omega
  refine ⟨by rw [List.length_set]; exact h.1, ?_, ?_⟩
  · rw [List.take_succ_eq_append_getElem (by rw [List.length_set]; exact hi), List.getElem_set_self, List.take_set, List.set_eq_of_length_le (by rw [List.length_take]; omega), h.2.1, List.take_succ_eq_append_getElem hj, List.filter_append]
    simp [hp]
  · have := congrArg (List.drop 1) h.2.2
    rw [List.drop_drop, List.drop_drop] at this
    rw [List.drop_set_of_lt (by omega)]
    exact this
theorem Part.start {K : List Cnt} {k : Nat} (hk : k < K.length) (hp : posC K[k] = false) (ha : ∀ x ∈ K.take k, posC x = true) : Part K K k (k + 1) := by
  refine ⟨rfl, ?_, rfl⟩
  rw [List.take_succ_eq_append_getElem hk, List.filter_append, filter_all ha]
  simp [hp]

/-- The kept ones come back, in the list's own memory. -/
def DelPost (base : Nat) (v : Value) (K : List Cnt) (w : World) (e : Ending) (w' : World) : Prop :=
  ∃ v', e = .returned v' ∧ OwnC w' base v' (K.filter posC) ∧ w.grownBy w' v.ownBlock ∧ (v'.ownBlock = v.ownBlock)

set_option maxRecDepth 100000 in
set_option maxHeartbeats 4000000 in
theorem delete_any (base g cap : Nat) (K : List Cnt) (w : World) (ho : OwnC w base (.slice (some ⟨g, 0, none⟩) K.length cap) K) (hs : ShpIn K) (hl : K.length ≤ 1000000) :
    Calls Try.prog 38 #[.slice (some ⟨g, 0, none⟩) K.length cap, .func (.func 39) #[] #[]] w (DelPost base (.slice (some ⟨g, 0, none⟩) K.length cap) K w) := by
  obtain ⟨hbg, hgw, hlc⟩ : base ≤ g ∧ g < w.heap.size ∧ K.length ≤ cap := by
    rcases ho.shape with ⟨h, _⟩ | ⟨g', cap', h, h1, h2, h3, _⟩
    · cases h
    · injection h with e1 e2 e3
      injection e1 with e1
      injection e1 with e4 e5
      subst e4 e3
      exact ⟨h1, h2, h3⟩
  have hat : AtG encC 2 w g 0 K := by
    rcases ho.val hkC with ⟨h, _⟩ | ⟨b, off, c, h, _, _, hat, _⟩
    · cases h
    · injection h with e1 e2 e3
      injection e1 with e1
      injection e1 with e4 e5
      subst e4 e5
      exact hat
  have HIX := Lib.hid (index_any (some ⟨g, 0, none⟩) cap K w (.inr ⟨g, 0, rfl, hgw, hat⟩) hs hl)
  have HO := Lib.hid ho
  have HS := Lib.hid hs
  clear ho hs hat
  go_enter Try.func38, Try.ntmps38
  go_wp2_with fail
  refine HIX.out.mono ?_
  rintro e w1 ⟨hb1, ⟨rfl, hall⟩ | ⟨k, hk, rfl, hneg, hpos⟩⟩
  · have HF : Hid (OwnC w1 base (.slice (some ⟨g, 0, none⟩) K.length cap) (K.filter posC)) := by
      rw [Hid, filter_all hall]
      exact HO.out.below hb1
    have HG : Hid (w.grownBy w1 (some g)) := ⟨hb1.os, hb1.tape, hb1.output, hb1.size, fun k hk _ => hb1.block k hk⟩
    clear hall
    go_wp2
    go_ret
    exact ⟨_, rfl, HF.out, HG.out, rfl⟩
  · have HP := Lib.hid (Part.start hk hneg hpos)
    have hG : w.grownBy w1 (some g) := ⟨hb1.os, hb1.tape, hb1.output, hb1.size, fun k hk _ => hb1.block k hk⟩
    have HO1 := Lib.hid (HO.out.below hb1)
    have hk1 : ((k : Int) == -1) = false := by
      simp
    clear hneg hpos HIX HO
    go_wp2_with fail
    go_loopw [5, 6] (fun si sj wr => ∃ (i j : Nat) (M : List Cnt), si = .int .i64 i ∧ sj = .int .i64 j ∧ i < j ∧ j ≤ K.length ∧ w.grownBy wr (some g) ∧ Hid (OwnC wr base (.slice (some ⟨g, 0, none⟩) K.length cap) M ∧ Part K M i j)) (fun _ sj _ => K.length - (intOf sj).toNat)
    case atStart => exact ⟨k, k + 1, K, rfl, by go_num, by omega, by omega, hG, ⟨HO1.out, HP.out⟩⟩
    case round =>
      obtain ⟨i, j, M, rfl, rfl, hij, hj, hgr, HM⟩ := hrel
      have hgz : g < wr.heap.size := Nat.lt_of_lt_of_le hgw hgr.size
      have hML := HM.out.2.1
      by_cases hlt : j < K.length
      · have hat := HM.out.1.at hML
        have e0 := hat j _ (HM.out.2.get hlt) 0 _ rfl
        have e1 := hat j _ (HM.out.2.get hlt) 1 _ rfl
        have hiM : i < M.length := by omega
        have t0 := hat i _ (List.getElem?_eq_getElem hiM) 0 _ rfl
        have t1 := hat i _ (List.getElem?_eq_getElem hiM) 1 _ rfl
        rw [Nat.zero_add] at e0 e1 t0 t1
        rw [Nat.add_zero] at e0 t0
        have q0 : wr.frozen? ⟨g, i * 2, none⟩ = false := World.ownsRow.frozenAt (by have := HM.out.1; unfold OwnC OwnG at this; rw [hML] at this; exact this) _
        have q1 : wr.frozen? ⟨g, i * 2 + 1, none⟩ = false := World.ownsRow.frozenAt (by have := HM.out.1; unfold OwnC OwnG at this; rw [hML] at this; exact this) _
        obtain ⟨Ax, nx, cx, hxv⟩ := HS.out _ (List.getElem_mem hlt)
        rw [hxv] at e0
        have HPOS : Hid (posC K[j] = decide (0 < K[j].n)) := rfl
        have HXV := Lib.hid hxv
        have HSK : Hid (posC K[j] = false → Part K M i (j + 1)) := fun h => HM.out.2.skip hlt h
        have HKP : Hid (posC K[j] = true → Part K (M.set i K[j]) (i + 1) (j + 1)) := fun h => HM.out.2.keep hij hlt h
        have HPUT : Hid (∀ w2, Below wr.heap.size wr w2 → OwnC ((w2.setCell ⟨g, i * 2, none⟩ (.slice Ax nx cx)).setCell ⟨g, i * 2 + 1, none⟩ (.int .i64 K[j].n)) base (.slice (some ⟨g, 0, none⟩) K.length cap) (M.set i K[j])) := by
          intro w2 h2
          have := OwnC.put (HM.out.1.below h2) hML hiM K[j]
          rw [hxv] at this
          exact this
        have HOM : Hid (∀ w2, Below wr.heap.size wr w2 → OwnC w2 base (.slice (some ⟨g, 0, none⟩) K.length cap) M) := fun w2 h2 => HM.out.1.below h2
        clear hat hxv HM HXV
        revert e0 e1 HPOS HSK HKP HPUT
        generalize K[j] = x
        obtain ⟨xv, xl, xn⟩ := x
        generalize M[i].v = tv at *
        generalize M[i].n = tn at *
        intro e0 e1 HPOS HSK HKP HPUT
        simp only at e1 HPOS HPUT
        have HN : Hid (∀ W, Calls Try.prog 39 #[.agg #[.slice Ax nx cx, .int .i64 xn]] W fun e w' => e = .returned (.bool (!decide (0 < xn))) ∧ Below W.heap.size W w') := fun W => neg_any Ax nx cx xn W
        have bX := Blk.new wr #[.slice Ax nx cx, .int .i64 xn] 44
        have hwa := (Below.refl wr.heap.size wr).alloc (Nat.le_refl _) (.cells #[.slice Ax nx cx, .int .i64 xn] 44)
        by_cases hp : 0 < xn
        · rw [decide_eq_true hp] at HN HPOS
          simp only [Bool.not_true] at HN
          clear hp
          go_wp2_with (go_at_call 39; refine (HN.out _).mono ?_; rintro e w2 ⟨rfl, hb2⟩; have hw2 := hwa.trans (hb2.mono (by simp)); have bY := bX.below hb2; have y0 := bY.cell 0; have y1 := bY.cell 1; simp only [List.getElem?_toArray, List.getElem?_cons_zero, List.getElem?_cons_succ] at y0 y1; have s0 := (hw2.cell (p := ⟨g, i * 2, none⟩) hgz).trans t0; have s1 := (hw2.cell (p := ⟨g, i * 2 + 1, none⟩) hgz).trans t1; have f0 := (hw2.frozen (p := ⟨g, i * 2, none⟩) hgz).trans q0; have f1 := (hw2.frozen (p := ⟨g, i * 2 + 1, none⟩) hgz).trans q1)
          go_roundw
          case rel => exact ⟨i + 1, j + 1, _, by go_num, by go_num, by omega, by omega, grown_set (grown_set (grown_below hgr hw2) _ _) _ _, ⟨HPUT.out w2 hw2, HKP.out HPOS.out⟩⟩
          case measure => simp [intOf]; omega
        · rw [decide_eq_false hp] at HN HPOS
          simp only [Bool.not_false] at HN
          clear hp
          go_wp2_with (go_at_call 39; refine (HN.out _).mono ?_; rintro e w2 ⟨rfl, hb2⟩; have hw2 := hwa.trans (hb2.mono (by simp)))
          go_roundw
          case rel => exact ⟨i, j + 1, M, rfl, by go_num, by omega, by omega, grown_below hgr hw2, ⟨HOM.out w2 hw2, HSK.out HPOS.out⟩⟩
          case measure => simp [intOf]; omega
      · obtain rfl : j = K.length := by omega
        obtain ⟨w9, hcl, ho9, hg9⟩ := run_clear_own wr base g K.length cap i M HM.out.1 hML hij
        have HF : Hid (OwnC w9 base (.slice (some ⟨g, 0, none⟩) i cap) (K.filter posC)) := by
          have := HM.out.2.2.1
          rw [List.take_length] at this
          rw [← this]
          exact ho9
        have HG9 : Hid (w.grownBy w9 (some g)) := ⟨hg9.os.trans hgr.os, hg9.tape.trans hgr.tape, hg9.output.trans hgr.output, Nat.le_trans hgr.size hg9.size, fun q hq hne => (hg9.block q (Nat.lt_of_lt_of_le hq hgr.size) hne).trans (hgr.block q hq hne)⟩
        have hic : i < cap := by omega
        clear ho9 hg9 HM
        go_wp2
        go_ret
        exact ⟨_, rfl, HF.out, HG9.out, rfl⟩

end Go.Proofs.Ytciijaejldfcaaa
