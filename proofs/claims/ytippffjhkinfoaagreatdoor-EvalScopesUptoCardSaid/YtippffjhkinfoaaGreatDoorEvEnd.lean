/-
  The tables of unicode/utf8 stand where the listed variables read as the program's text lays them.
  What the frames of this seat's laws share: values that come in, opened.
  The contract of strings.Clone: the same bytes; memory of its own alone is made.
  The program's Value.
  The program's Value at any expression.
  Expressions, rows of scopes and values that come in, opened; how many there are, by their bulk.
  Expressions that came in, opened; rows with how many they are.
  The law's alive: the literal of the INT 7 is what it is.
-/
import Derived.Test.YtippffjhkinfoaaGreatDoorValidAll
import Derived.Test.YtippffjhkinfoaaGreatDoorTie
import Derived.Test.YtippffjhkinfoaaGreatDoorCards
import Derived.Lib.LaidU8T
import Derived.PinnedBridge
import Derived.Test.YtippffjhkinfoaaGreatDoorRefAll
import Derived.ProofKit
import Derived.OpenShut
import Derived.ShutString
import Derived.ChangeOld
import Derived.Below
import Derived.Lib.SmallJoins
import Derived.Lay
import Derived.LaidOnce
import Derived.SevenTiedAt
import Derived.Deep.Slices
import Derived.Deep.Fields
import Derived.ChangeSame
import Derived.Shelf.Strconv.Clone
import Derived.Lib.Hide
import Derived.Test.YtippffjhkinfoaaGreatDoorSmall
import Derived.Test.YtippffjhkinfoaaGreatDoorEvAll
import Derived.Test.YtippffjhkinfoaaGreatDoorExAll
import Derived.Test.YtippffjhkinfoaaGreatDoorRows
import Derived.Test.YtippffjhkinfoaaGreatDoorCells
import Derived.Deep.RegionHeldLaw
namespace Go.Proofs.YtippffjhkinfoaaGreatDoor
open Go.RowKit

theorem tabs_of {w : World} (h3 : Lib.VarReads Tryz.prog w "unicode/utf8.first" Rows.laid_unicode_utf8_first) (h4 : Lib.VarReads Tryz.prog w "unicode/utf8.acceptRanges" Rows.laid_unicode_utf8_acceptRanges) : Tabs w := by
  have e3 : Rows.laid_unicode_utf8_first = Lib.firstData := Pinned.utf8First_eq
  have e4 : (Rows.laid_unicode_utf8_acceptRanges : DataW Unit) = Lib.acceptData := by kernel_rfl
  rw [e3] at h3
  rw [e4] at h4
  exact utf8Tabs_of_readsT (U8Types.of196 Tryz.laysValid) ⟨by kernel_rfl, by kernel_rfl, by kernel_rfl, by kernel_rfl, by kernel_rfl, by kernel_rfl, by kernel_rfl⟩ h3 h4

end Go.Proofs.YtippffjhkinfoaaGreatDoor

namespace Go.Proofs.YtippffjhkinfoaaGreatDoor
open Go.ChangeShapes Go.WideShapes Go.ChangeAt Go.RowKit Go.Joins Go.Deep

theorem Tryz.own : ownKnob Tryz.prog.godebug = none := by kernel_rfl
theorem Tryz.laidOut : laidOutB Tryz.prog = true := by kernel_rfl
theorem Tryz.cells27 : Tryz.prog.cellsOf 27 = 3 := by kernel_rfl

theorem bounds_i64 {x : Int} (wx : (Lit.int .i64 x).wf = true) : -9223372036854775808 ≤ x ∧ x ≤ 9223372036854775807 := by
  simpa [Lit.wf, IntKind.min, IntKind.max, IntKind.signed, IntKind.bits] using wx

section
variable {H : Type} {enc : TypeId × Value → H} {P : Program} {w : World} {base : Nat} {spare : Nat → Bool} {held : Bool}
theorem open_slice_fields {t e : TypeId} {fs : Array Field} {fuel : Nat} {cs : List Value} {x : DataW H × List MemPlace} (ht : P.underlying t = some (.slice e)) (he : P.underlying e = some (.struct fs))
    (hone : oneCellFields P fs = true) (hC : P.cellsOf e = fs.size) (h : DataW.trod enc P w base spare held fuel t cs = some x) :
    (cs = [.slice none 0 0] ∧ x = (.nil, [])) ∨
    ∃ (a : Addr) (len cap m : Nat), cs = [.slice (some a) len cap] ∧ len ≤ cap ∧ cap ≤ maxLen ∧ m = (if spare a.block then cap else len) ∧
      ∀ i, i < m → ∀ (j : Nat) (f : Field), fs[j]? = some f → ∃ (v : Value) (y : DataW H × List MemPlace) (n : Nat), w.cell? (a.add (i * fs.size + j)) = some v ∧ DataW.trod enc P w base spare held n f.type [v] = some y := by
  rcases open_slice ht h with h0 | ⟨a, len, cap, m, n, D, Pl, hcs, hb, hl, hm, hmm, hx, hi⟩
  · exact .inl h0
  · refine .inr ⟨a, len, cap, m, hcs, hl, hm, hmm, fun i him => ?_⟩
    obtain ⟨cs', hc, ht'⟩ := hi i him
    rw [hC] at hc
    obtain ⟨ys, n', hn', hy, hlen, hyl, hf⟩ := DataW.trod_struct he ht'
    obtain ⟨_, hcl, hat⟩ := World.cells?_some hc
    intro j f hj
    obtain ⟨ho, hk⟩ := hone_of hone j f hj
    have hjl : j < fs.size := (Array.getElem?_eq_some_iff.1 hj).1
    have hcell := hat j hjl
    have hv : cs'[j]? = some (cs'[j]'(by omega)) := List.getElem?_eq_getElem (by omega)
    have h1 := hf j f hj
    rw [ho, hk] at h1
    have hone' : (cs'.drop j).take 1 = [cs'[j]'(by omega)] := by
      rw [List.drop_eq_getElem_cons (by omega)]
      rfl
    rw [hone'] at h1
    have hys : ys[j]? = some (ys[j]'(by omega)) := List.getElem?_eq_getElem (by omega)
    refine ⟨_, _, _, ?_, h1.trans hys⟩
    rw [← Go.Deep.add_add, hcell, hv]
end

set_option maxRecDepth 100000 in
/-- Values that come in, opened. -/
theorem open_dats {H : Type} {enc : TypeId × Value → H} {W : World} {r : Reach} {base : Nat} {v : Value} {d : DataW H} {p : List MemPlace}
    (hv : Value.okWide Tryz.prog W r base 25 v) (h : DataW.Trod enc Tryz.prog W 0 (fun _ => true) true 25 v d p) : ∃ l : List Dat, DatV W v l ∧ ∀ d ∈ l, InI d := by
  obtain ⟨a0, len, cap, rfl⟩ := okWide_slice Tryz.underlying25 hv
  obtain ⟨fuel, hf⟩ := h
  rcases open_slice_fields Tryz.underlying25 Tryz.underlying27 (by kernel_rfl) (by kernel_rfl) hf with ⟨hcs, hx⟩ | ⟨a, len', cap', m, hcs, hl, hm, hmm, hi⟩
  · simp [Value.cells] at hcs
    obtain ⟨rfl, rfl, rfl⟩ := hcs
    exact ⟨[], .inl ⟨⟨_, rfl⟩, rfl⟩, by simp⟩
  · simp [Value.cells] at hcs
    obtain ⟨rfl, rfl, rfl⟩ := hcs
    simp only [if_true] at hmm
    subst hmm
    simp only [Value.okWide, Tryz.underlying25, Cell.okWide, Cell.ok, World.has] at hv
    obtain ⟨_, _, _, hsp, row, cells, hsh, _⟩ := hv
    obtain ⟨b, off, spot⟩ := a
    simp only at hsp hsh
    subst hsp
    have hb : b < W.heap.size := by
      rcases Nat.lt_or_ge b W.heap.size with h | h
      · exact h
      · simp [World.shape?, Array.getElem?_eq_none h] at hsh
    have key : ∀ i, ∃ d : Dat, i < m → (InI d ∧ W.cell? ⟨b, off + i * 3, none⟩ = some (.int .i64 d.k) ∧ W.cell? ⟨b, off + i * 3 + 1, none⟩ = some (.int .i64 d.i) ∧ W.cell? ⟨b, off + i * 3 + 2, none⟩ = some (.string d.s)) := by
      intro i
      by_cases him : i < m
      · obtain ⟨v0, y0, n0, c0, t0⟩ := hi i him 0 _ rfl
        obtain ⟨v1, y1, n1, c1, t1⟩ := hi i him 1 _ rfl
        obtain ⟨v2, y2, n2, c2, t2⟩ := hi i him 2 _ rfl
        obtain ⟨z0, e0, rfl, w0⟩ := DataW.trod_int Tryz.underlying3 t0
        obtain ⟨z1, e1, rfl, w1⟩ := DataW.trod_int Tryz.underlying2 t1
        obtain ⟨z2, e2, rfl, w2⟩ := DataW.trod_string Tryz.underlying9 t2
        simp at e0 e1 e2
        subst e0 e1 e2
        have ea : ∀ q : Nat, (⟨b, off, none⟩ : Addr).add q = ⟨b, off + q, none⟩ := by intro q; unfold Addr.add; split <;> simp_all
        rw [ea] at c0 c1 c2
        exact ⟨⟨z0, z1, z2⟩, fun _ => ⟨bounds_i64 w1, c0, c1, c2⟩⟩
      · exact ⟨⟨0, 0, ByteArray.empty⟩, fun h => absurd h him⟩
    have hlen' : ((List.range len).map fun i => Classical.choose (key i)).length = len := by simp
    refine ⟨(List.range len).map fun i => Classical.choose (key i), .inr ⟨b, off, m, ?_, by rw [hlen']; omega, hb, ?_, by rw [hlen']; omega⟩, ?_⟩
    · rw [hlen']
    · intro k d hk r u hr
      rw [List.getElem?_map] at hk
      have hkl : k < len := by
        rcases Nat.lt_or_ge k len with h | h
        · exact h
        · rw [List.getElem?_eq_none (by simpa using h)] at hk; cases hk
      rw [List.getElem?_range hkl] at hk
      simp only [Option.map_some, Option.some.injEq] at hk
      subst hk
      have := (Classical.choose_spec (key k)) (by omega)
      match r, hr with
      | 0, hr => cases hr; exact this.2.1
      | 1, hr => cases hr; exact this.2.2.1
      | 2, hr => cases hr; exact this.2.2.2
      | r + 3, hr => cases hr
    · intro d hd
      simp only [List.mem_map, List.mem_range] at hd
      obtain ⟨i, hi', rfl⟩ := hd
      exact ((Classical.choose_spec (key i)) (by omega)).1

end Go.Proofs.YtippffjhkinfoaaGreatDoor

namespace Go.Proofs
open Go.Shelf
def Tryz.laysClone_ren : Go.Shelf.Ren := ⟨fun | 316 => 42 | n => n, fun | 9 => 9 | 3 => 3 | 4 => 4 | 37 => 87 | 0 => 0 | 127 => 103 | 5 => 5 | n => n, fun | n => n⟩
theorem Tryz.laysClone : Go.Proofs.LaysM.n316 Tryz.prog Tryz.laysClone_ren := {
  mixed := by kernel_rfl
  f316 := Tryz.func42.trans (congrArg some (by kernel_rfl))
  t0 := Tryz.underlying0
  a0 := Tryz.isAgg0
  z0 := Tryz.sizeOf0
  v0 := Tryz.zeroValue0
  t3 := Tryz.underlying3
  a3 := Tryz.isAgg3
  z3 := Tryz.sizeOf3
  v3 := Tryz.zeroValue3
  t4 := Tryz.underlying4
  a4 := Tryz.isAgg4
  z4 := Tryz.sizeOf4
  v4 := Tryz.zeroValue4
  t9 := Tryz.underlying9
  a9 := Tryz.isAgg9
  z9 := Tryz.sizeOf9
  v9 := Tryz.zeroValue9
  t37 := Tryz.underlying87
  a37 := Tryz.isAgg87
  z37 := Tryz.sizeOf87
  v37 := Tryz.zeroValue87
  t127 := Tryz.underlying103
  a127 := Tryz.isAgg103
  z127 := Tryz.sizeOf103
  v127 := Tryz.zeroValue103
  t5 := Tryz.underlying5
  a5 := Tryz.isAgg5
  z5 := Tryz.sizeOf5
  v5 := Tryz.zeroValue5
  i0 := by kernel_rfl
  i3 := by kernel_rfl
  i4 := by kernel_rfl
  i5 := by kernel_rfl
  i9 := by kernel_rfl
  i37 := by kernel_rfl
  i127 := by kernel_rfl }
namespace YtippffjhkinfoaaGreatDoor
open Go.RowKit
theorem clone_any (s : ByteArray) (w : World) (hs : s.size ≤ 281474976710656) :
    Calls Tryz.prog 20 #[.string s] w fun e w' => e = .returned (.string s) ∧ Below w.heap.size w w' := by
  have HC : Hid (∀ w, Calls Tryz.prog 42 #[.string s] w fun e w' => e = .returned (.string s) ∧ Below w.heap.size w w') := fun w => Any.stringslite_Clone Tryz.laysClone s w hs
  go_enter Tryz.func20, Tryz.ntmps20
  go_wp2_with (go_at_call 42; (with_reducible refine (HC.out _).mono ?_); rintro e w1 ⟨rfl, b1⟩)
  go_ret
  exact ⟨rfl, b1⟩
end YtippffjhkinfoaaGreatDoor
end Go.Proofs

namespace Go.Proofs.YtippffjhkinfoaaGreatDoor
open Go.RowKit

/-- With an error there is no value. -/
def ErrT (t : Tri) : Prop := t.2.2 ≠ 0 → t.1 = 0 ∧ t.2.1 = 0
theorem errT_zero (e : Int) : ErrT (0, 0, e) := fun _ => ⟨rfl, rfl⟩
theorem errT_ok (k i : Int) : ErrT (k, i, 0) := fun h => absurd rfl h
theorem errT_fit (k z : Int) : ErrT (fitT k z) := by
  unfold fitT fitK fitI fitE
  cases fitsB z
  · exact errT_zero _
  · exact errT_ok _ _
theorem errT_join (k1 i1 k2 i2 st : Int) : ErrT (joinR k1 i1 k2 i2 st) := by
  unfold joinR
  repeat' split
  all_goals first
    | exact errT_zero _
    | exact errT_ok _ _
theorem errT_not (k i : Int) : ErrT (notR k i) := by
  unfold notR
  repeat' split
  all_goals first
    | exact errT_zero _
    | exact errT_ok _ _
theorem errT_len (d : Dat) : ErrT (lenR d) := by
  unfold lenR
  repeat' split
  all_goals first
    | exact errT_zero _
    | exact errT_ok _ _
theorem errT_un (op : Int) (a : Dat) : ErrT (unR op a) := by
  unfold unR
  repeat' split
  all_goals first
    | exact errT_zero _
    | exact errT_ok _ _
    | exact errT_fit _ _
theorem errT_two (op k u z1 z2 : Int) : ErrT (twoR op k u z1 z2) := by
  unfold twoR
  repeat' split
  all_goals first
    | exact errT_zero _
    | exact errT_fit _ _
theorem errT_bin (op : Int) (a b : Dat) : ErrT (binR op a b) := by
  unfold binR
  repeat' split
  all_goals first
    | exact errT_zero _
    | exact errT_two _ _ _ _ _
theorem errT_rel (op : Int) (a b : Dat) : ErrT (relR op a b) := by
  unfold relR
  repeat' split
  all_goals first
    | exact errT_zero _
    | exact errT_ok _ _
theorem errT_app (op : Int) (L : List Dat) : ErrT (appR op L) := by
  unfold appR
  split
  · exact errT_zero _
  · split
    · unfold oneR
      repeat' split
      all_goals first
        | exact errT_ok _ _
        | exact errT_not _ _
        | exact errT_len _
        | exact errT_un _ _
    · unfold bothR
      repeat' split
      all_goals first
        | exact errT_join _ _ _ _ _
        | exact errT_rel _ _ _
        | exact errT_bin _ _ _
    · exact errT_zero _
def ErrV (x : Va) : Prop := x.2 ≠ 0 → x.1 = nullD
theorem errV_nul (f : Int) : ErrV (nulX f) := fun _ => rfl
theorem errV_case : ∀ V : List Va, (∀ x ∈ V, ErrV x) → ErrV (caseX V)
  | [], _ => by rw [caseX]; exact errV_nul _
  | [a], h => by rw [caseX]; exact h a (by simp)
  | a :: b :: l, h => by
    rw [caseX]
    split
    · exact errV_nul _
    · split
      · exact errV_nul _
      · split
        · exact h b (by simp)
        · exact errV_case l fun x hx => h x (by simp [hx])
theorem errV_oth (op : Int) : ∀ (V : List Va) (n : Nat) (acc : List Dat), ErrV (othX op n acc V)
  | [], n, acc => by
    rw [othX]
    split
    · exact errV_nul _
    · intro h
      obtain ⟨h1, h2⟩ := errT_app op acc h
      unfold triX nullD
      simp only
      rw [h1, h2]
  | x :: l, n, acc => by
    rw [othX]
    split
    · exact errV_nul _
    · split
      · exact fun h => absurd rfl h
      · split
        · exact fun h => absurd rfl h
        · exact errV_oth op l (n + 1) _
theorem errV_xs (env : Env) (P : Ex → Prop) (hP : ∀ x, P x → ∀ S : List Dat, ErrV (valX env x S)) : ∀ (L : List Ex) (S : List Dat), (∀ x ∈ L, P x) → ∀ y ∈ valXs env L S, ErrV y
  | [], S, _, y, hy => by rw [valXs_nil] at hy; cases hy
  | e :: l, S, h, y, hy => by
    rw [valXs_cons] at hy
    rcases List.mem_cons.1 hy with rfl | hy
    · exact hP e (h e (by simp)) _
    · exact errV_xs env P hP l _ (fun x hx => h x (by simp [hx])) y hy
theorem errV_val (env : Env) {e : Ex} (h : ExB e) : ∀ S : List Dat, ErrV (valX env e S) := by
  induction h with
  | mk e hI hn hk ih =>
    intro S
    rw [valX_eq]
    split
    · exact fun h => absurd rfl h
    · split
      · exact fun h => absurd rfl h
      · split
        · unfold callX
          split
          · exact errV_case _ (errV_xs env (fun x => x ∈ e.kids) (fun x hx S => ih x hx S) e.kids S (fun x hx => hx))
          · exact errV_oth _ _ _ _
        · exact fun h => absurd rfl h

set_option maxRecDepth 100000 in
set_option maxHeartbeats 8000000 in
theorem value_raw (k t : Int) (nl : Bool) (lit : Dat) (lv col op : Int) (A sA : Option Addr) (m c sn sc : Nat) (vE vS : Value) (hvE : SliceV vE) (S : List Dat) (rx ar : Bool) (ns : Nat) (x : Va) (hxe : ErrV x) (hxs : x.1.s.size ≤ 281474976710656) (w : World) (hS : DatV w vS S)
    (HR : Hid (∀ w', Below w.heap.size w w' → Calls Tryz.prog 16 #[.agg #[.int .i64 k, .int .i64 t, .bool nl, .int .i64 lit.k, .int .i64 lit.i, .string lit.s, .int .i64 lv, .int .i64 col, .int .i64 op, .slice A m c, .slice sA sn sc], vE] w' (RightPost rx w')))
    (HA : Hid (∀ w', Below w.heap.size w w' → Calls Tryz.prog 17 #[vS] w' (RightPost ar w')))
    (HC : Hid (rx = true → ∀ w' b, Below w.heap.size w w' → Blk w' b #[.int .i64 k, .int .i64 t, .bool nl, .int .i64 lit.k, .int .i64 lit.i, .string lit.s, .int .i64 lv, .int .i64 col, .int .i64 op, .slice A m c, .slice sA sn sc] 30 → Calls Tryz.prog 18 #[.slice (some ⟨b, 0, none⟩) 1 1] w' (CntPost ns w')))
    (HW : Hid (rx = true → ar = true → ns = S.length → ∀ w' p, Below w.heap.size w w' → w.heap.size ≤ p → Blk w' p #[vE, vS] 52 → Calls Tryz.prog 19 #[.pointer (some ⟨p, 0, none⟩), .agg #[.int .i64 k, .int .i64 t, .bool nl, .int .i64 lit.k, .int .i64 lit.i, .string lit.s, .int .i64 lv, .int .i64 col, .int .i64 op, .slice A m c, .slice sA sn sc]] w' (fun e w2 => e = .returned (ifX x) ∧ ButB p w'.heap.size w' w2))) :
    Calls Tryz.prog 8 #[.agg #[.int .i64 k, .int .i64 t, .bool nl, .int .i64 lit.k, .int .i64 lit.i, .string lit.s, .int .i64 lv, .int .i64 col, .int .i64 op, .slice A m c, .slice sA sn sc], vE, vS] w (ValPost (if rx = false ∨ ns ≠ S.length ∨ ar = false then nulX 1 else x) w) := by
  obtain ⟨Ae, ne, ce, rfl⟩ := hvE
  obtain ⟨As, cs, rfl, hcs, hms⟩ := hS.len
  unfold maxLen at hms
  clear hS
  have hb1 := (Below.refl w.heap.size w).alloc (Nat.le_refl _) (.cells #[.int .i64 k, .int .i64 t, .bool nl, .int .i64 lit.k, .int .i64 lit.i, .string lit.s, .int .i64 lv, .int .i64 col, .int .i64 op, .slice A m c, .slice sA sn sc] 30)
  have hb2 := hb1.alloc hb1.size (.cells #[.int .i64 0, .int .i64 0, .string noText] 27)
  have bX := (Blk.new w #[.int .i64 k, .int .i64 t, .bool nl, .int .i64 lit.k, .int .i64 lit.i, .string lit.s, .int .i64 lv, .int .i64 col, .int .i64 op, .slice A m c, .slice sA sn sc] 30).alloc (.cells #[.int .i64 0, .int .i64 0, .string noText] 27)
  have bR := Blk.new (w.alloc (.cells #[.int .i64 k, .int .i64 t, .bool nl, .int .i64 lit.k, .int .i64 lit.i, .string lit.s, .int .i64 lv, .int .i64 col, .int .i64 op, .slice A m c, .slice sA sn sc] 30)) #[.int .i64 0, .int .i64 0, .string noText] 27
  rw [show (w.alloc (.cells #[.int .i64 k, .int .i64 t, .bool nl, .int .i64 lit.k, .int .i64 lit.i, .string lit.s, .int .i64 lv, .int .i64 col, .int .i64 op, .slice A m c, .slice sA sn sc] 30)).heap.size = w.heap.size + 1 by simp] at bR
  obtain ⟨Y, hY⟩ : ∃ Y, (if rx = false ∨ ns ≠ S.length ∨ ar = false then nulX 1 else x) = Y := ⟨_, rfl⟩
  rw [hY]
  have HY := Lib.hid hY
  clear hY
  cases rx
  · have HE : Hid (Y = nulX 1) := by have := HY.out; rw [if_pos (.inl rfl)] at this; exact this.symm
    go_enter Tryz.func8, Tryz.ntmps8
    go_wp2_with (go_at_call 16; (with_reducible refine (HR.out _ hb2).mono ?_); rintro e w5 ⟨rfl, hb5⟩; have h5 := hb2.trans (hb5.mono hb2.size); have bX5 := bX.below hb5; have bR5 := bR.below hb5; have y0 := bX5.cell 0; have y1 := bX5.cell 1; have y2 := bX5.cell 2; have y3 := bX5.cell 3; have y4 := bX5.cell 4; have y5 := bX5.cell 5; have y6 := bX5.cell 6; have y7 := bX5.cell 7; have y8 := bX5.cell 8; have y9 := bX5.cell 9; have y10 := bX5.cell 10; simp only [List.getElem?_toArray, List.getElem?_cons_zero, List.getElem?_cons_succ] at y0 y1 y2 y3 y4 y5 y6 y7 y8 y9 y10; have r0 := bR5.cell 0; have r1 := bR5.cell 1; have r2 := bR5.cell 2; have f0 := bR5.frozen 0; have f1 := bR5.frozen 1; have f2 := bR5.frozen 2; simp only [List.getElem?_toArray, List.getElem?_cons_zero, List.getElem?_cons_succ] at r0 r1 r2)
    refine bodyPost_ret ?_ rfl ⟨by rw [HE.out], ?_⟩
    · simp [results, Tryz.results8, go_sem, r0, r1, r2, nulX, nullD]
    · exact (((h5.setCell (by simp; try omega) _).setCell (by simp; try omega) _).setCell (by simp; try omega) _)
  · have HC1 := Lib.hid (HC.out rfl)
    cases ar
    · have HE : Hid (Y = nulX 1) := by have := HY.out; rw [if_pos (.inr (.inr rfl))] at this; exact this.symm
      go_enter Tryz.func8, Tryz.ntmps8
      go_wp2_with (first
        | (go_at_call 16; (with_reducible refine (HR.out _ hb2).mono ?_); rintro e w5 ⟨rfl, hb5⟩; have h5 := hb2.trans (hb5.mono hb2.size); have bX5 := bX.below hb5; have bR5 := bR.below hb5; have y0 := bX5.cell 0; have y1 := bX5.cell 1; have y2 := bX5.cell 2; have y3 := bX5.cell 3; have y4 := bX5.cell 4; have y5 := bX5.cell 5; have y6 := bX5.cell 6; have y7 := bX5.cell 7; have y8 := bX5.cell 8; have y9 := bX5.cell 9; have y10 := bX5.cell 10; simp only [List.getElem?_toArray, List.getElem?_cons_zero, List.getElem?_cons_succ] at y0 y1 y2 y3 y4 y5 y6 y7 y8 y9 y10; have r0 := bR5.cell 0; have r1 := bR5.cell 1; have r2 := bR5.cell 2; have f0 := bR5.frozen 0; have f1 := bR5.frozen 1; have f2 := bR5.frozen 2; simp only [List.getElem?_toArray, List.getElem?_cons_zero, List.getElem?_cons_succ] at r0 r1 r2)
        | (go_at_call 17; (with_reducible refine (HA.out _ h5).mono ?_); rintro e w6 ⟨rfl, hb6⟩; have h6 := h5.trans (hb6.mono h5.size); have bX6 := bX5.below hb6; have bR6 := bR5.below hb6; clear y0 y1 y2 y3 y4 y5 y6 y7 y8 y9 y10 r0 r1 r2 f0 f1 f2; have y0 := bX6.cell 0; have y1 := bX6.cell 1; have y2 := bX6.cell 2; have y3 := bX6.cell 3; have y4 := bX6.cell 4; have y5 := bX6.cell 5; have y6 := bX6.cell 6; have y7 := bX6.cell 7; have y8 := bX6.cell 8; have y9 := bX6.cell 9; have y10 := bX6.cell 10; simp only [List.getElem?_toArray, List.getElem?_cons_zero, List.getElem?_cons_succ] at y0 y1 y2 y3 y4 y5 y6 y7 y8 y9 y10; have r0 := bR6.cell 0; have r1 := bR6.cell 1; have r2 := bR6.cell 2; have f0 := bR6.frozen 0; have f1 := bR6.frozen 1; have f2 := bR6.frozen 2; simp only [List.getElem?_toArray, List.getElem?_cons_zero, List.getElem?_cons_succ] at r0 r1 r2))
      refine bodyPost_ret ?_ rfl ⟨by rw [HE.out], ?_⟩
      · simp [results, Tryz.results8, go_sem, r0, r1, r2, nulX, nullD]
      · exact (((h6.setCell (by simp; try omega) _).setCell (by simp; try omega) _).setCell (by simp; try omega) _)
    · by_cases hn : ns = S.length
      · have HW1 := Lib.hid (HW.out rfl rfl hn)
        have HE : Hid (Y = x) := by have := HY.out; rw [if_neg (by simp [hn])] at this; exact this.symm
        have hne : ((S.length : Int) != ns) = false := by simp [hn]
        clear hn HW HC
        obtain ⟨⟨xk, xi, xs⟩, xf⟩ := x
        by_cases hf : xf = 0
        · subst hf
          rw [ifX_ok rfl] at HW1
          have hTY := as_yes
          simp only at hxs
          have HCL := Lib.hid (fun w => clone_any xs w hxs)
          clear hxe hxs
          go_enter Tryz.func8, Tryz.ntmps8
          go_wp2_with (first
            | (go_at_call 16; (with_reducible refine (HR.out _ hb2).mono ?_); rintro e w5 ⟨rfl, hb5⟩; have h5 := hb2.trans (hb5.mono hb2.size); have bX5 := bX.below hb5; have bR5 := bR.below hb5; have y0 := bX5.cell 0; have y1 := bX5.cell 1; have y2 := bX5.cell 2; have y3 := bX5.cell 3; have y4 := bX5.cell 4; have y5 := bX5.cell 5; have y6 := bX5.cell 6; have y7 := bX5.cell 7; have y8 := bX5.cell 8; have y9 := bX5.cell 9; have y10 := bX5.cell 10; simp only [List.getElem?_toArray, List.getElem?_cons_zero, List.getElem?_cons_succ] at y0 y1 y2 y3 y4 y5 y6 y7 y8 y9 y10; have r0 := bR5.cell 0; have r1 := bR5.cell 1; have r2 := bR5.cell 2; have f0 := bR5.frozen 0; have f1 := bR5.frozen 1; have f2 := bR5.frozen 2; simp only [List.getElem?_toArray, List.getElem?_cons_zero, List.getElem?_cons_succ] at r0 r1 r2)
            | (go_at_call 17; (with_reducible refine (HA.out _ h5).mono ?_); rintro e w6 ⟨rfl, hb6⟩; have h6 := h5.trans (hb6.mono h5.size); have bX6 := bX5.below hb6; have bR6 := bR5.below hb6; clear y0 y1 y2 y3 y4 y5 y6 y7 y8 y9 y10 r0 r1 r2 f0 f1 f2; have y0 := bX6.cell 0; have y1 := bX6.cell 1; have y2 := bX6.cell 2; have y3 := bX6.cell 3; have y4 := bX6.cell 4; have y5 := bX6.cell 5; have y6 := bX6.cell 6; have y7 := bX6.cell 7; have y8 := bX6.cell 8; have y9 := bX6.cell 9; have y10 := bX6.cell 10; simp only [List.getElem?_toArray, List.getElem?_cons_zero, List.getElem?_cons_succ] at y0 y1 y2 y3 y4 y5 y6 y7 y8 y9 y10; have r0 := bR6.cell 0; have r1 := bR6.cell 1; have r2 := bR6.cell 2; have f0 := bR6.frozen 0; have f1 := bR6.frozen 1; have f2 := bR6.frozen 2; simp only [List.getElem?_toArray, List.getElem?_cons_zero, List.getElem?_cons_succ] at r0 r1 r2)
            | (go_at_call 18; (with_reducible refine (HC1.out _ _ (h6.alloc h6.size (.cells #[.int .i64 k, .int .i64 t, .bool nl, .int .i64 lit.k, .int .i64 lit.i, .string lit.s, .int .i64 lv, .int .i64 col, .int .i64 op, .slice A m c, .slice sA sn sc] 30)) (Blk.new w6 #[.int .i64 k, .int .i64 t, .bool nl, .int .i64 lit.k, .int .i64 lit.i, .string lit.s, .int .i64 lv, .int .i64 col, .int .i64 op, .slice A m c, .slice sA sn sc] 30)).mono ?_); rintro e w7 ⟨rfl, hb7⟩; have h7 := (h6.alloc h6.size (.cells #[.int .i64 k, .int .i64 t, .bool nl, .int .i64 lit.k, .int .i64 lit.i, .string lit.s, .int .i64 lv, .int .i64 col, .int .i64 op, .slice A m c, .slice sA sn sc] 30)).trans (hb7.mono (by have := h6.size; simp; omega)); have bX7 := (bX6.alloc (.cells #[.int .i64 k, .int .i64 t, .bool nl, .int .i64 lit.k, .int .i64 lit.i, .string lit.s, .int .i64 lv, .int .i64 col, .int .i64 op, .slice A m c, .slice sA sn sc] 30)).below hb7; have bR7 := (bR6.alloc (.cells #[.int .i64 k, .int .i64 t, .bool nl, .int .i64 lit.k, .int .i64 lit.i, .string lit.s, .int .i64 lv, .int .i64 col, .int .i64 op, .slice A m c, .slice sA sn sc] 30)).below hb7; clear y0 y1 y2 y3 y4 y5 y6 y7 y8 y9 y10 r0 r1 r2 f0 f1 f2; have bX7p := bX7.alloc (.cells #[.slice Ae ne ce, .slice As S.length cs] 52); have y0 := bX7p.cell 0; have y1 := bX7p.cell 1; have y2 := bX7p.cell 2; have y3 := bX7p.cell 3; have y4 := bX7p.cell 4; have y5 := bX7p.cell 5; have y6 := bX7p.cell 6; have y7 := bX7p.cell 7; have y8 := bX7p.cell 8; have y9 := bX7p.cell 9; have y10 := bX7p.cell 10; simp only [List.getElem?_toArray, List.getElem?_cons_zero, List.getElem?_cons_succ] at y0 y1 y2 y3 y4 y5 y6 y7 y8 y9 y10; have r0 := bR7.cell 0; have r1 := bR7.cell 1; have r2 := bR7.cell 2; have f0 := bR7.frozen 0; have f1 := bR7.frozen 1; have f2 := bR7.frozen 2; simp only [List.getElem?_toArray, List.getElem?_cons_zero, List.getElem?_cons_succ] at r0 r1 r2)
            | (go_at_call 19; (with_reducible refine (HW1.out _ w7.heap.size (h7.alloc h7.size (.cells #[.slice Ae ne ce, .slice As S.length cs] 52)) h7.size (Blk.new w7 #[.slice Ae ne ce, .slice As S.length cs] 52)).mono ?_); rintro e w8 ⟨rfl, hbut8⟩; have hz7 := h7.size; have hl1 := bX7.lt; have hl2 := bR7.lt; have h8 := (h7.alloc h7.size (.cells #[.slice Ae ne ce, .slice As S.length cs] 52)).trans (hbut8.below h7.size (by simp; omega)); have bX8 := (bX7.alloc (.cells #[.slice Ae ne ce, .slice As S.length cs] 52)).but hbut8 (by simp; omega) (by omega); have bR8 := (bR7.alloc (.cells #[.slice Ae ne ce, .slice As S.length cs] 52)).but hbut8 (by simp; omega) (by omega); clear y0 y1 y2 y3 y4 y5 y6 y7 y8 y9 y10 r0 r1 r2 f0 f1 f2; have r0 := bR8.cell 0; have r1 := bR8.cell 1; have r2 := bR8.cell 2; have f0 := bR8.frozen 0; have f1 := bR8.frozen 1; have f2 := bR8.frozen 2; simp only [List.getElem?_toArray, List.getElem?_cons_zero, List.getElem?_cons_succ] at r0 r1 r2)
            | (go_at_call 20; (with_reducible refine (HCL.out _).mono ?_); rintro e w9 ⟨rfl, hb9⟩; have h8b := h8.alloc h8.size (.cells #[.int .i64 xk, .int .i64 xi, .string xs] 27); have h9 := h8b.trans (hb9.mono h8b.size); have bR9 := (bR8.alloc (.cells #[.int .i64 xk, .int .i64 xi, .string xs] 27)).below hb9; have bD9 := (Blk.new w8 #[.int .i64 xk, .int .i64 xi, .string xs] 27).below hb9; clear r0 r1 r2 f0 f1 f2; have r0 := bR9.cell 0; have r1 := bR9.cell 1; have r2 := bR9.cell 2; have f0 := bR9.frozen 0; have f1 := bR9.frozen 1; have f2 := bR9.frozen 2; simp only [List.getElem?_toArray, List.getElem?_cons_zero, List.getElem?_cons_succ] at r0 r1 r2; have c0 := bD9.cell 0; have c1 := bD9.cell 1; have c2 := bD9.cell 2; have d0 := bD9.frozen 0; have d1 := bD9.frozen 1; have d2 := bD9.frozen 2; simp only [List.getElem?_toArray, List.getElem?_cons_zero, List.getElem?_cons_succ] at c0 c1 c2; have hne1 : w.heap.size + 1 ≠ w8.heap.size := (by have := hbut8.size; simp at this; omega); have hne2 := hne1.symm; have s0 := cell_set (o := 0) (p := 2) (u := .string xs) hne1 r0; have s1 := cell_set (o := 1) (p := 2) (u := .string xs) hne1 r1; have s2 := cell_set (o := 2) (p := 2) (u := .string xs) hne1 r2))
          refine bodyPost_ret ?_ rfl ⟨by rw [HE.out], ?_⟩
          · simp [results, Tryz.results8, go_sem, s0, s1, s2]
          · exact ((((h9.setCell (by have := h8.size; simp; try omega) _).setCell (by simp; try omega) _).setCell (by simp; try omega) _).setCell (by simp; try omega) _)
        · rw [ifX_err hf] at HW1
          have hTN := as_no
          have hTE := as_err
          have hx1 := hxe hf
          simp only at hx1
          injection hx1 with e1 e2 e3
          subst e1 e2 e3
          clear hxe hxs hf
          go_enter Tryz.func8, Tryz.ntmps8
          go_wp2_with (first
            | (go_at_call 16; (with_reducible refine (HR.out _ hb2).mono ?_); rintro e w5 ⟨rfl, hb5⟩; have h5 := hb2.trans (hb5.mono hb2.size); have bX5 := bX.below hb5; have bR5 := bR.below hb5; have y0 := bX5.cell 0; have y1 := bX5.cell 1; have y2 := bX5.cell 2; have y3 := bX5.cell 3; have y4 := bX5.cell 4; have y5 := bX5.cell 5; have y6 := bX5.cell 6; have y7 := bX5.cell 7; have y8 := bX5.cell 8; have y9 := bX5.cell 9; have y10 := bX5.cell 10; simp only [List.getElem?_toArray, List.getElem?_cons_zero, List.getElem?_cons_succ] at y0 y1 y2 y3 y4 y5 y6 y7 y8 y9 y10; have r0 := bR5.cell 0; have r1 := bR5.cell 1; have r2 := bR5.cell 2; have f0 := bR5.frozen 0; have f1 := bR5.frozen 1; have f2 := bR5.frozen 2; simp only [List.getElem?_toArray, List.getElem?_cons_zero, List.getElem?_cons_succ] at r0 r1 r2)
            | (go_at_call 17; (with_reducible refine (HA.out _ h5).mono ?_); rintro e w6 ⟨rfl, hb6⟩; have h6 := h5.trans (hb6.mono h5.size); have bX6 := bX5.below hb6; have bR6 := bR5.below hb6; clear y0 y1 y2 y3 y4 y5 y6 y7 y8 y9 y10 r0 r1 r2 f0 f1 f2; have y0 := bX6.cell 0; have y1 := bX6.cell 1; have y2 := bX6.cell 2; have y3 := bX6.cell 3; have y4 := bX6.cell 4; have y5 := bX6.cell 5; have y6 := bX6.cell 6; have y7 := bX6.cell 7; have y8 := bX6.cell 8; have y9 := bX6.cell 9; have y10 := bX6.cell 10; simp only [List.getElem?_toArray, List.getElem?_cons_zero, List.getElem?_cons_succ] at y0 y1 y2 y3 y4 y5 y6 y7 y8 y9 y10; have r0 := bR6.cell 0; have r1 := bR6.cell 1; have r2 := bR6.cell 2; have f0 := bR6.frozen 0; have f1 := bR6.frozen 1; have f2 := bR6.frozen 2; simp only [List.getElem?_toArray, List.getElem?_cons_zero, List.getElem?_cons_succ] at r0 r1 r2)
            | (go_at_call 18; (with_reducible refine (HC1.out _ _ (h6.alloc h6.size (.cells #[.int .i64 k, .int .i64 t, .bool nl, .int .i64 lit.k, .int .i64 lit.i, .string lit.s, .int .i64 lv, .int .i64 col, .int .i64 op, .slice A m c, .slice sA sn sc] 30)) (Blk.new w6 #[.int .i64 k, .int .i64 t, .bool nl, .int .i64 lit.k, .int .i64 lit.i, .string lit.s, .int .i64 lv, .int .i64 col, .int .i64 op, .slice A m c, .slice sA sn sc] 30)).mono ?_); rintro e w7 ⟨rfl, hb7⟩; have h7 := (h6.alloc h6.size (.cells #[.int .i64 k, .int .i64 t, .bool nl, .int .i64 lit.k, .int .i64 lit.i, .string lit.s, .int .i64 lv, .int .i64 col, .int .i64 op, .slice A m c, .slice sA sn sc] 30)).trans (hb7.mono (by have := h6.size; simp; omega)); have bX7 := (bX6.alloc (.cells #[.int .i64 k, .int .i64 t, .bool nl, .int .i64 lit.k, .int .i64 lit.i, .string lit.s, .int .i64 lv, .int .i64 col, .int .i64 op, .slice A m c, .slice sA sn sc] 30)).below hb7; have bR7 := (bR6.alloc (.cells #[.int .i64 k, .int .i64 t, .bool nl, .int .i64 lit.k, .int .i64 lit.i, .string lit.s, .int .i64 lv, .int .i64 col, .int .i64 op, .slice A m c, .slice sA sn sc] 30)).below hb7; clear y0 y1 y2 y3 y4 y5 y6 y7 y8 y9 y10 r0 r1 r2 f0 f1 f2; have bX7p := bX7.alloc (.cells #[.slice Ae ne ce, .slice As S.length cs] 52); have y0 := bX7p.cell 0; have y1 := bX7p.cell 1; have y2 := bX7p.cell 2; have y3 := bX7p.cell 3; have y4 := bX7p.cell 4; have y5 := bX7p.cell 5; have y6 := bX7p.cell 6; have y7 := bX7p.cell 7; have y8 := bX7p.cell 8; have y9 := bX7p.cell 9; have y10 := bX7p.cell 10; simp only [List.getElem?_toArray, List.getElem?_cons_zero, List.getElem?_cons_succ] at y0 y1 y2 y3 y4 y5 y6 y7 y8 y9 y10; have r0 := bR7.cell 0; have r1 := bR7.cell 1; have r2 := bR7.cell 2; have f0 := bR7.frozen 0; have f1 := bR7.frozen 1; have f2 := bR7.frozen 2; simp only [List.getElem?_toArray, List.getElem?_cons_zero, List.getElem?_cons_succ] at r0 r1 r2)
            | (go_at_call 19; (with_reducible refine (HW1.out _ w7.heap.size (h7.alloc h7.size (.cells #[.slice Ae ne ce, .slice As S.length cs] 52)) h7.size (Blk.new w7 #[.slice Ae ne ce, .slice As S.length cs] 52)).mono ?_); rintro e w8 ⟨rfl, hbut8⟩; have hz7 := h7.size; have hl1 := bX7.lt; have hl2 := bR7.lt; have h8 := (h7.alloc h7.size (.cells #[.slice Ae ne ce, .slice As S.length cs] 52)).trans (hbut8.below h7.size (by simp; omega)); have bX8 := (bX7.alloc (.cells #[.slice Ae ne ce, .slice As S.length cs] 52)).but hbut8 (by simp; omega) (by omega); have bR8 := (bR7.alloc (.cells #[.slice Ae ne ce, .slice As S.length cs] 52)).but hbut8 (by simp; omega) (by omega); clear y0 y1 y2 y3 y4 y5 y6 y7 y8 y9 y10 r0 r1 r2 f0 f1 f2; have bR8p := bR8.alloc (.cells #[.int .i64 0, .int .i64 0, .string noText] 27); have r0 := bR8p.cell 0; have r1 := bR8p.cell 1; have r2 := bR8p.cell 2; have f0 := bR8p.frozen 0; have f1 := bR8p.frozen 1; have f2 := bR8p.frozen 2; simp only [List.getElem?_toArray, List.getElem?_cons_zero, List.getElem?_cons_succ] at r0 r1 r2))
          go_region
          first
            | (rename_i K1 hK1 K0 hK0; change K0 _ _; refine hK0 _ _ ?_)
            | (rename_i K0 hK0 K1 hK1; change K0 _ _; refine hK0 _ _ ?_)
            | (rename_i K0 hK0; change K0 _ _; refine hK0 _ _ ?_)
          go_wp2_with fail
          refine bodyPost_ret ?_ rfl ⟨by rw [HE.out], ?_⟩
          · simp [results, Tryz.results8, go_sem, r0, r1, r2]
          · exact ((((h8.alloc h8.size _).setCell (by simp; try omega) _).setCell (by simp; try omega) _).setCell (by simp; try omega) _).drew
      · have hne : ((S.length : Int) != ns) = true := by simp; omega
        have HE : Hid (Y = nulX 1) := by have := HY.out; rw [if_pos (.inr (.inl hn))] at this; exact this.symm
        go_enter Tryz.func8, Tryz.ntmps8
        go_wp2_with (first
          | (go_at_call 16; (with_reducible refine (HR.out _ hb2).mono ?_); rintro e w5 ⟨rfl, hb5⟩; have h5 := hb2.trans (hb5.mono hb2.size); have bX5 := bX.below hb5; have bR5 := bR.below hb5; have y0 := bX5.cell 0; have y1 := bX5.cell 1; have y2 := bX5.cell 2; have y3 := bX5.cell 3; have y4 := bX5.cell 4; have y5 := bX5.cell 5; have y6 := bX5.cell 6; have y7 := bX5.cell 7; have y8 := bX5.cell 8; have y9 := bX5.cell 9; have y10 := bX5.cell 10; simp only [List.getElem?_toArray, List.getElem?_cons_zero, List.getElem?_cons_succ] at y0 y1 y2 y3 y4 y5 y6 y7 y8 y9 y10; have r0 := bR5.cell 0; have r1 := bR5.cell 1; have r2 := bR5.cell 2; have f0 := bR5.frozen 0; have f1 := bR5.frozen 1; have f2 := bR5.frozen 2; simp only [List.getElem?_toArray, List.getElem?_cons_zero, List.getElem?_cons_succ] at r0 r1 r2)
          | (go_at_call 17; (with_reducible refine (HA.out _ h5).mono ?_); rintro e w6 ⟨rfl, hb6⟩; have h6 := h5.trans (hb6.mono h5.size); have bX6 := bX5.below hb6; have bR6 := bR5.below hb6; clear y0 y1 y2 y3 y4 y5 y6 y7 y8 y9 y10 r0 r1 r2 f0 f1 f2; have y0 := bX6.cell 0; have y1 := bX6.cell 1; have y2 := bX6.cell 2; have y3 := bX6.cell 3; have y4 := bX6.cell 4; have y5 := bX6.cell 5; have y6 := bX6.cell 6; have y7 := bX6.cell 7; have y8 := bX6.cell 8; have y9 := bX6.cell 9; have y10 := bX6.cell 10; simp only [List.getElem?_toArray, List.getElem?_cons_zero, List.getElem?_cons_succ] at y0 y1 y2 y3 y4 y5 y6 y7 y8 y9 y10; have r0 := bR6.cell 0; have r1 := bR6.cell 1; have r2 := bR6.cell 2; have f0 := bR6.frozen 0; have f1 := bR6.frozen 1; have f2 := bR6.frozen 2; simp only [List.getElem?_toArray, List.getElem?_cons_zero, List.getElem?_cons_succ] at r0 r1 r2)
          | (go_at_call 18; (with_reducible refine (HC1.out _ _ (h6.alloc h6.size (.cells #[.int .i64 k, .int .i64 t, .bool nl, .int .i64 lit.k, .int .i64 lit.i, .string lit.s, .int .i64 lv, .int .i64 col, .int .i64 op, .slice A m c, .slice sA sn sc] 30)) (Blk.new w6 #[.int .i64 k, .int .i64 t, .bool nl, .int .i64 lit.k, .int .i64 lit.i, .string lit.s, .int .i64 lv, .int .i64 col, .int .i64 op, .slice A m c, .slice sA sn sc] 30)).mono ?_); rintro e w7 ⟨rfl, hb7⟩; have h7 := (h6.alloc h6.size (.cells #[.int .i64 k, .int .i64 t, .bool nl, .int .i64 lit.k, .int .i64 lit.i, .string lit.s, .int .i64 lv, .int .i64 col, .int .i64 op, .slice A m c, .slice sA sn sc] 30)).trans (hb7.mono (by have := h6.size; simp; omega)); have bX7 := (bX6.alloc (.cells #[.int .i64 k, .int .i64 t, .bool nl, .int .i64 lit.k, .int .i64 lit.i, .string lit.s, .int .i64 lv, .int .i64 col, .int .i64 op, .slice A m c, .slice sA sn sc] 30)).below hb7; have bR7 := (bR6.alloc (.cells #[.int .i64 k, .int .i64 t, .bool nl, .int .i64 lit.k, .int .i64 lit.i, .string lit.s, .int .i64 lv, .int .i64 col, .int .i64 op, .slice A m c, .slice sA sn sc] 30)).below hb7; clear y0 y1 y2 y3 y4 y5 y6 y7 y8 y9 y10 r0 r1 r2 f0 f1 f2; have bX7p := bX7.alloc (.cells #[.slice Ae ne ce, .slice As S.length cs] 52); have y0 := bX7p.cell 0; have y1 := bX7p.cell 1; have y2 := bX7p.cell 2; have y3 := bX7p.cell 3; have y4 := bX7p.cell 4; have y5 := bX7p.cell 5; have y6 := bX7p.cell 6; have y7 := bX7p.cell 7; have y8 := bX7p.cell 8; have y9 := bX7p.cell 9; have y10 := bX7p.cell 10; simp only [List.getElem?_toArray, List.getElem?_cons_zero, List.getElem?_cons_succ] at y0 y1 y2 y3 y4 y5 y6 y7 y8 y9 y10; have r0 := bR7.cell 0; have r1 := bR7.cell 1; have r2 := bR7.cell 2; have f0 := bR7.frozen 0; have f1 := bR7.frozen 1; have f2 := bR7.frozen 2; simp only [List.getElem?_toArray, List.getElem?_cons_zero, List.getElem?_cons_succ] at r0 r1 r2))
        refine bodyPost_ret ?_ rfl ⟨by rw [HE.out], ?_⟩
        · simp [results, Tryz.results8, go_sem, r0, r1, r2, nulX, nullD]
        · exact (((h7.setCell (by simp; try omega) _).setCell (by simp; try omega) _).setCell (by simp; try omega) _)

end Go.Proofs.YtippffjhkinfoaaGreatDoor

namespace Go.Proofs.YtippffjhkinfoaaGreatDoor
open Go.RowKit

theorem value_any {w : World} {e : Ex} (h : ExOk w e) (env : Env) (vE : Value) (hE : EnvV w vE env) (hEI : ∀ r ∈ env, ∀ d ∈ r.l, InI d) (hT : Tabs w) (hB : ExB e) (hl : (subsX e).length ≤ 1048576)
    (v : Value) (S : List Dat) (hS : DatV w v S) (hSI : ∀ d ∈ S, InI d) :
    Calls Tryz.prog 8 #[exVal e, vE, v] w (ValPost (valueX env e S) w) := by
  have hvE : SliceV vE := by obtain ⟨A, c, rfl, _, _⟩ := hE.slice; exact ⟨_, _, _, rfl⟩
  obtain ⟨x, hx, hxe, hxs⟩ : ∃ x : Va, ((rightX env e = true ∧ S.all rightD = true) → x = valX env e S) ∧ ErrV x ∧ x.1.s.size ≤ 281474976710656 := by
    by_cases hg : rightX env e = true ∧ S.all rightD = true
    · refine ⟨_, fun _ => rfl, errV_val env hB S, ?_⟩
      have hr := right_val hB hg.1 S (fun d hd => by have := List.all_eq_true.1 hg.2 d hd; exact this)
      have := rightD_size _ hr
      omega
    · exact ⟨nulX 1, fun h => absurd h hg, errV_nul 1, by decide⟩
  have hq : valueX env e S = if rightX env e = false ∨ (subsX e).length ≠ S.length ∨ S.all rightD = false then nulX 1 else x := by
    unfold valueX
    split
    · rfl
    · rename_i hn
      rw [hx]
      refine ⟨?_, ?_⟩
      · cases hr : rightX env e
        · exact absurd (.inl hr) hn
        · rfl
      · cases ha : S.all rightD
        · exact absurd (.inr (.inr ha)) hn
        · rfl
  rw [hq]
  have HR := fun w' (hb' : Below w.heap.size w w') => mayBe_any h env vE hE hT w' hb'
  have HA := fun w' (hb' : Below w.heap.size w w') => allRight_any S v w' (hS.below hb') (hT.below hb')
  have HC : rightX env e = true → ∀ w' b, Below w.heap.size w w' → Blk w' b #[.int .i64 e.k, .int .i64 e.t, .bool e.nl, .int .i64 e.lit.k, .int .i64 e.lit.i, .string e.lit.s, .int .i64 e.lv, .int .i64 e.col, .int .i64 e.op, e.kv, e.sv] 30 → Calls Tryz.prog 18 #[.slice (some ⟨b, 0, none⟩) 1 1] w' (CntPost (subsX e).length w') := by
    intro hr w' b hb' hbk
    have h1 := subq_any [e] _ env hb' (valE_one w' b e hbk) (fun x hx => by rw [List.mem_singleton] at hx; rw [hx]; exact h) (fun x hx => by rw [List.mem_singleton] at hx; rw [hx]; exact hr) (by rw [subsXs_cons, subsXs_nil, List.append_nil]; omega)
    rwa [subsXs_cons, subsXs_nil, List.append_nil] at h1
  have HW : rightX env e = true → S.all rightD = true → (subsX e).length = S.length → ∀ w' p, Below w.heap.size w w' → w.heap.size ≤ p → Blk w' p #[vE, v] 52 → Calls Tryz.prog 19 #[.pointer (some ⟨p, 0, none⟩), exVal e] w' (fun e w2 => e = .returned (ifX x) ∧ ButB p w'.heap.size w' w2) := by
    intro hr ha hn w' p hb' hp hbk
    rw [hx ⟨hr, ha⟩]
    refine (worth_any h env vE hE hEI hT p hB hr w' v S ⟨hbk, hS, hp, hb'⟩ (by omega) (fun d hd => ⟨hSI d hd, List.all_eq_true.1 ha d hd⟩)).mono ?_
    rintro e w2 ⟨h1, h2, _⟩
    exact ⟨h1, h2⟩
  obtain ⟨A, c, hkv, _, _⟩ := h.kv.slice
  obtain ⟨sA, sn, sc, hsv⟩ := h.sv
  clear hE hEI hB h hx hq
  obtain ⟨k, t, nl, lit, lv, col, op, kv, sv, kids⟩ := e
  simp only at hkv hsv
  subst hkv hsv
  exact value_raw k t nl lit lv col op A sA kids.length c sn sc vE v hvE S (rightX env _) (S.all rightD) _ x hxe hxs w hS HR HA HC HW

theorem run_eq_same (k i : Int) (s : ByteArray) (w : World) :
    (binOp .eql 27 (.agg #[.int .i64 k, .int .i64 i, .string s]) (.agg #[.int .i64 k, .int .i64 i, .string s])).run Tryz.prog w = .ok (.bool true) w := by
  rw [run_eq_datum]
  simp

end Go.Proofs.YtippffjhkinfoaaGreatDoor

namespace Go.Proofs.YtippffjhkinfoaaGreatDoor
open Go.ChangeShapes Go.WideShapes Go.ChangeAt Go.RowKit Go.Joins Go.Deep

theorem bulk_one {H : Type} (d : DataW H) : 1 ≤ Rows.uptoBulk d := by
  cases d with
  | lit l => cases l <;> simp [Rows.uptoBulk]
  | nil => simp [Rows.uptoBulk]
  | ptr d => simp [Rows.uptoBulk]
  | slice elems spare => simp [Rows.uptoBulk]
  | agg parts => simp [Rows.uptoBulk]
  | iface t d => simp [Rows.uptoBulk]
  | map entries => simp [Rows.uptoBulk]
  | held h => simp [Rows.uptoBulk]
theorem bulk_mem {H : Type} {d : DataW H} : ∀ {l : List (DataW H)}, d ∈ l → Rows.uptoBulk d ≤ Rows.uptoBulkAll l
  | [], h => by cases h
  | x :: r, h => by
    simp only [Rows.uptoBulkAll]
    rcases List.mem_cons.1 h with rfl | h
    · omega
    · have := bulk_mem h
      omega

theorem addr_spot {w : World} {a : Addr} {v : Value} (h : w.cell? a = some v) : a = ⟨a.block, a.off, none⟩ ∧ a.block < w.heap.size := by
  obtain ⟨b, o, s⟩ := a
  have hb := World.block_lt_of_cell? _ _ h
  cases s with
  | none => exact ⟨rfl, hb⟩
  | some s =>
    exfalso
    unfold World.cell? at h
    split at h <;> simp_all

theorem list_of {α : Type} (Q : Nat → α → Prop) : ∀ n : Nat, (∀ i, i < n → ∃ z, Q i z) → ∃ L : List α, L.length = n ∧ ∀ (i : Nat) z, L[i]? = some z → Q i z
  | 0, _ => ⟨[], rfl, fun i z h => by simp at h⟩
  | n + 1, h => by
    obtain ⟨L, hl, hL⟩ := list_of Q n fun i hi => h i (by omega)
    obtain ⟨z, hz⟩ := h n (by omega)
    refine ⟨L ++ [z], by rw [List.length_append, hl]; rfl, fun i y hy => ?_⟩
    by_cases hi : i < n
    · rw [List.getElem?_append_left (by omega)] at hy
      exact hL i y hy
    · have hin : i < (L ++ [z]).length := (List.getElem?_eq_some_iff.mp hy).1
      rw [List.length_append, hl, List.length_singleton] at hin
      obtain rfl : i = n := by omega
      rw [List.getElem?_append_right (by omega), hl, Nat.sub_self] at hy
      simp only [List.getElem?_cons_zero, Option.some.injEq] at hy
      rw [← hy]
      exact hz

section
variable {H : Type} {enc : TypeId × Value → H} {P : Program} {w : World}
/-- A slice whose elements are open. -/
theorem open_list {α : Type} {enc' : α → List Value} {k : Nat} {t e : TypeId} {fuel : Nat} {cs : List Value} {x : DataW H × List MemPlace} (Good : α → DataW H → Prop)
    (ht : P.underlying t = some (.slice e)) (hC : P.cellsOf e = k) (hk0 : 0 < k) (hk : ∀ x, (enc' x).length = k)
    (hel : ∀ n, n < fuel → ∀ cs y, DataW.trod enc P w 0 (fun _ => true) true n e cs = some y → ∃ x, cs = enc' x ∧ Good x y.1)
    (h : DataW.trod enc P w 0 (fun _ => true) true fuel t cs = some x) :
    ∃ (v : Value) (L : List α) (Ds : List (DataW H)), cs = [v] ∧ ValW enc' k w v L ∧ Ds.length = L.length ∧ (∀ (i : Nat) a d, L[i]? = some a → Ds[i]? = some d → Good a d) ∧ Rows.uptoBulkAll Ds < Rows.uptoBulk x.1 := by
  subst hC
  rcases DataW.trod_slice ht h with ⟨rfl, rfl⟩ | ⟨a, len, cap, elems, rest, n, hfu, rfl, rfl, hb, hl, hm, hlen, hE, hsp, _⟩
  · exact ⟨_, [], [], rfl, .inl ⟨⟨none, rfl⟩, rfl⟩, rfl, fun i a d h => (by simp at h), by simp [Rows.uptoBulkAll, Rows.uptoBulk]⟩
  · obtain ⟨hrl, hR⟩ := hsp rfl
    by_cases hc0 : cap = 0
    · subst hc0
      obtain rfl : len = 0 := by omega
      obtain rfl : elems = [] := List.eq_nil_of_length_eq_zero hlen
      refine ⟨_, [], [], rfl, .inl ⟨⟨_, rfl⟩, rfl⟩, rfl, fun i a d h => ?_, ?_⟩
      · simp at h
      · simp only [Rows.uptoBulkAll, Rows.uptoBulk, List.map_nil]; omega
    · have hcell : ∀ (i : Nat) (y : DataW H × List MemPlace), (w.cells? 0 (a.add (i * P.cellsOf e)) (P.cellsOf e)).bind (DataW.trod enc P w 0 (fun _ => true) true n e) = some y → ∃ z, Good z y.1 ∧ ∀ r u, (enc' z)[r]? = some u → w.cell? (a.add (i * P.cellsOf e + r)) = some u := by
        intro i y hy
        obtain ⟨cs', hc, hy⟩ := Option.bind_eq_some_iff.1 hy
        obtain ⟨z, hz, hg⟩ := hel n (by omega) cs' _ hy
        obtain ⟨_, hcl, hat⟩ := World.cells?_some hc
        refine ⟨z, hg, fun r u hr => ?_⟩
        have hrk : r < P.cellsOf e := by have := (List.getElem?_eq_some_iff.mp hr).1; rw [hk] at this; exact this
        have h1 := hat r hrk
        rw [Go.Deep.add_add] at h1
        rw [h1, hz]
        exact hr
      have h00 : ∃ u, w.cell? a = some u := by
        have key : ∃ y, (w.cells? 0 (a.add (0 * P.cellsOf e)) (P.cellsOf e)).bind (DataW.trod enc P w 0 (fun _ => true) true n e) = some y := by
          by_cases hl0 : len = 0
          · have h1 := hR 0 (by omega)
            rw [hl0] at h1
            exact ⟨rest[0]'(by omega), by rw [← List.getElem?_eq_getElem]; exact h1⟩
          · have h1 := hE 0 (by omega)
            exact ⟨elems[0]'(by omega), by rw [← List.getElem?_eq_getElem]; exact h1⟩
        obtain ⟨y, hy⟩ := key
        obtain ⟨z, _, hz⟩ := hcell 0 y hy
        have hzl : 0 < (enc' z).length := by rw [hk]; exact hk0
        have h2 := hz 0 _ (List.getElem?_eq_getElem hzl)
        rw [Nat.zero_mul, Nat.zero_add] at h2
        have e0 : a.add 0 = a := by unfold Addr.add; simp
        rw [e0] at h2
        exact ⟨_, h2⟩
      obtain ⟨u0, hu0⟩ := h00
      obtain ⟨ea, hbl⟩ := addr_spot hu0
      obtain ⟨b, off, spot⟩ := a
      simp only [Addr.mk.injEq, true_and] at ea
      subst ea
      have eadd : ∀ q : Nat, (⟨b, off, none⟩ : Addr).add q = ⟨b, off + q, none⟩ := by intro q; unfold Addr.add; split <;> simp_all
      obtain ⟨L, hL, hQ⟩ := list_of (fun i z => ∃ d, (elems.map (·.1))[i]? = some d ∧ Good z d ∧ ∀ r u, (enc' z)[r]? = some u → w.cell? ⟨b, off + (i * P.cellsOf e + r), none⟩ = some u) len (by
        intro i hi
        have h1 := hE i hi
        rw [List.getElem?_eq_getElem (by omega)] at h1
        obtain ⟨z, hg, hz⟩ := hcell i _ h1
        refine ⟨z, (elems[i]'(by omega)).1, by rw [List.getElem?_map, List.getElem?_eq_getElem (by omega)]; rfl, hg, fun r u hr => ?_⟩
        rw [← eadd]
        exact hz r u hr)
      refine ⟨_, L, elems.map (·.1), rfl, .inr ⟨b, off, cap, by rw [hL], by rw [hL]; omega, hbl, ?_, by rw [hL]; exact hl⟩, by rw [List.length_map, hL, hlen], ?_, ?_⟩
      · intro i z hi r u hr
        obtain ⟨_, _, _, h3⟩ := hQ i z hi
        rw [Nat.add_assoc]
        exact h3 r u hr
      · intro i z d hi hd
        obtain ⟨d', h1, h2, _⟩ := hQ i z hi
        rw [h1] at hd
        injection hd with hd
        rw [← hd]
        exact h2
      · simp only [Rows.uptoBulk]
        omega
end

theorem Tryz.cellsI : Tryz.prog.cellsOf 3 = 1 := by kernel_rfl
theorem Tryz.cellsI2 : Tryz.prog.cellsOf 2 = 1 := by kernel_rfl
theorem Tryz.cellsB : Tryz.prog.cellsOf 4 = 1 := by kernel_rfl
theorem Tryz.cellsS : Tryz.prog.cellsOf 9 = 1 := by kernel_rfl
theorem Tryz.cellsLX : Tryz.prog.cellsOf 22 = 1 := by kernel_rfl
theorem Tryz.cellsLR : Tryz.prog.cellsOf 28 = 1 := by kernel_rfl
theorem Tryz.cellsRow : Tryz.prog.cellsOf 40 = 1 := by kernel_rfl
theorem Tryz.cellsX : Tryz.prog.cellsOf 30 = 11 := by kernel_rfl

theorem field_of {H : Type} {enc : TypeId × Value → H} {P : Program} {w : World} {n : Nat} {fs : Array Field} {cs : List Value} {xs : List (DataW H × List MemPlace)}
    (hf : ∀ (i : Nat) (f : Field), fs[i]? = some f → DataW.trod enc P w 0 (fun _ => true) true n f.type ((cs.drop f.offset).take (P.cellsOf f.type)) = xs[i]?)
    (i : Nat) (t : TypeId) (o k : Nat) (f : Field) (h : fs[i]? = some f) (h1 : f.type = t) (h2 : f.offset = o) (h3 : P.cellsOf t = k) (hi : i < xs.length) : DataW.trod enc P w 0 (fun _ => true) true n t ((cs.drop o).take k) = some xs[i] := by
  subst h1 h2 h3
  rw [hf i f h, List.getElem?_eq_getElem hi]

section
variable {H : Type} {enc : TypeId × Value → H} {W : World}
set_option maxRecDepth 100000 in
/-- A value that came in. -/
theorem open_dat {fuel : Nat} {cs : List Value} {x : DataW H × List MemPlace} (h : DataW.trod enc Tryz.prog W 0 (fun _ => true) true fuel 27 cs = some x) : ∃ d : Dat, cs = encDat d ∧ InI d := by
  obtain ⟨xs, n, _, rfl, hl, hxl, hf⟩ := DataW.trod_struct Tryz.underlying27 h
  rw [Tryz.cells27] at hl
  match cs, hl with
  | [c0, c1, c2], _ =>
    have hx : xs.length = 3 := hxl
    have g0 : DataW.trod enc Tryz.prog W 0 (fun _ => true) true n 3 [c0] = some (xs[0]'(by omega)) := field_of hf 0 3 0 1 _ rfl rfl rfl Tryz.cellsI (by omega)
    have g1 : DataW.trod enc Tryz.prog W 0 (fun _ => true) true n 2 [c1] = some (xs[1]'(by omega)) := field_of hf 1 2 1 1 _ rfl rfl rfl Tryz.cellsI2 (by omega)
    have g2 : DataW.trod enc Tryz.prog W 0 (fun _ => true) true n 9 [c2] = some (xs[2]'(by omega)) := field_of hf 2 9 2 1 _ rfl rfl rfl Tryz.cellsS (by omega)
    obtain ⟨z0, e0, _, w0⟩ := DataW.trod_int Tryz.underlying3 g0
    obtain ⟨z1, e1, _, w1⟩ := DataW.trod_int Tryz.underlying2 g1
    obtain ⟨z2, e2, _, w2⟩ := DataW.trod_string Tryz.underlying9 g2
    injection e0 with e0
    injection e1 with e1
    injection e2 with e2
    subst e0 e1 e2
    exact ⟨⟨z0, z1, z2⟩, rfl, bounds_i64 w1⟩
/-- Values that came in. -/
theorem open_datl {fuel : Nat} {t : TypeId} (ht : Tryz.prog.underlying t = some (.slice 27)) {cs : List Value} {x : DataW H × List MemPlace} (h : DataW.trod enc Tryz.prog W 0 (fun _ => true) true fuel t cs = some x) :
    ∃ (v : Value) (l : List Dat), cs = [v] ∧ DatV W v l ∧ ∀ d ∈ l, InI d := by
  obtain ⟨v, L, Ds, h1, h2, h3, h4, _⟩ := open_list (enc' := encDat) (fun d _ => InI d) ht Tryz.cells27 (by decide) hkDat (fun n _ cs y hy => open_dat hy) h
  refine ⟨v, L, h1, h2, fun d hd => ?_⟩
  obtain ⟨i, hi⟩ := List.getElem?_of_mem hd
  have hil := (List.getElem?_eq_some_iff.mp hi).1
  exact h4 i d _ hi (List.getElem?_eq_getElem (by omega))
/-- Rows of scopes that came in. -/
theorem open_env {fuel : Nat} {cs : List Value} {x : DataW H × List MemPlace} (h : DataW.trod enc Tryz.prog W 0 (fun _ => true) true fuel 23 cs = some x) :
    ∃ (v : Value) (env : Env), cs = [v] ∧ EnvV W v env ∧ ∀ r ∈ env, ∀ d ∈ r.l, InI d := by
  obtain ⟨v, L, Ds, h1, h2, h3, h4, _⟩ := open_list (enc' := encRw) (fun r _ => DatV W r.v r.l ∧ ∀ d ∈ r.l, InI d) Tryz.underlying23 Tryz.cellsRow (by decide) hkRw (fun n _ cs y hy => by
    obtain ⟨v, l, a, b, c⟩ := open_datl Tryz.underlying40 hy
    exact ⟨⟨v, l⟩, a, b, c⟩) h
  have key : ∀ r ∈ L, DatV W r.v r.l ∧ ∀ d ∈ r.l, InI d := fun r hr => by
    obtain ⟨i, hi⟩ := List.getElem?_of_mem hr
    have hil := (List.getElem?_eq_some_iff.mp hi).1
    exact h4 i r _ hi (List.getElem?_eq_getElem (by omega))
  exact ⟨v, L, h1, ⟨h2, fun r hr => (key r hr).1⟩, fun r hr => (key r hr).2⟩

mutual
/-- How many nodes. -/
def sizX : Ex → Nat
  | ⟨_, _, _, _, _, _, _, _, _, kids⟩ => 1 + sizXs kids
def sizXs : List Ex → Nat
  | [] => 0
  | e :: l => sizX e + sizXs l
end
theorem sizX_eq (e : Ex) : sizX e = 1 + sizXs e.kids := by
  obtain ⟨k, t, nl, lit, lv, col, op, kv, sv, kids⟩ := e
  rw [sizX]
theorem sizXs_nil : sizXs [] = 0 := by rw [sizXs]
theorem sizXs_cons (e : Ex) (l : List Ex) : sizXs (e :: l) = sizX e + sizXs l := by rw [sizXs]
theorem sizX_pos (e : Ex) : 1 ≤ sizX e := by rw [sizX_eq]; omega
theorem sizXs_len : ∀ L : List Ex, L.length ≤ sizXs L
  | [] => by rw [sizXs_nil]; exact Nat.le_refl _
  | e :: l => by have h1 := sizXs_len l; have h2 := sizX_pos e; rw [sizXs_cons, List.length_cons]; omega
theorem sizXs_mem {x : Ex} : ∀ {L : List Ex}, x ∈ L → sizX x ≤ sizXs L
  | [], h => by cases h
  | e :: l, h => by
    rw [sizXs_cons]
    rcases List.mem_cons.1 h with rfl | h
    · omega
    · have := sizXs_mem h
      omega
omit enc in
theorem sizXs_bulk : ∀ (L : List Ex) (Ds : List (DataW H)), Ds.length = L.length → (∀ (i : Nat) a d, L[i]? = some a → Ds[i]? = some d → sizX a ≤ Rows.uptoBulk d) → sizXs L ≤ Rows.uptoBulkAll Ds
  | [], _, _, _ => by rw [sizXs_nil]; exact Nat.zero_le _
  | e :: l, [], hl, _ => by simp at hl
  | e :: l, d :: r, hl, h => by
    have h1 := h 0 e d rfl rfl
    have h2 := sizXs_bulk l r (by simpa using hl) fun i a d ha hd => h (i + 1) a d (by simpa using ha) (by simpa using hd)
    rw [sizXs_cons]
    simp only [Rows.uptoBulkAll]
    omega
/-- Literals' numbers, levels and columns are within 64 bits. -/
inductive ExI : Ex → Prop
  | mk (e : Ex) (hI : InI e.lit) (hL : (Lit.int .i64 e.lv).wf = true ∧ (Lit.int .i64 e.col).wf = true) (hk : ∀ x ∈ e.kids, ExI x) : ExI e
theorem ExI.small {e : Ex} (h : ExI e) : sizX e ≤ 1048577 → ExB e := by
  induction h with
  | mk e hI hL hk ih =>
    intro hs
    rw [sizX_eq] at hs
    have h1 := sizXs_len e.kids
    exact ⟨e, hI, by omega, fun x hx => ih x hx (by have := sizXs_mem hx; omega)⟩
theorem subs_siz {w : World} {e : Ex} (h : ExOk w e) : (subsX e).length ≤ sizX e := by
  induction h with
  | mk e hv hs hk ih =>
    rw [subsX_eq, sizX_eq]
    split
    · simp
    · split
      · have key : ∀ L : List Ex, (∀ x ∈ L, (subsX x).length ≤ sizX x) → (subsXs L).length ≤ sizXs L := by
          intro L
          induction L with
          | nil => intro _; rw [subsXs_nil, sizXs_nil]; exact Nat.le_refl _
          | cons e l ihl =>
            intro h
            rw [subsXs_cons, sizXs_cons, List.length_append]
            have h1 := h e (by simp)
            have h2 := ihl fun x hx => h x (by simp [hx])
            omega
        have := key e.kids ih
        omega
      · simp

set_option maxRecDepth 100000 in
/-- An expression that came in. -/
theorem open_ex : ∀ (fuel : Nat) (cs : List Value) (x : DataW H × List MemPlace), DataW.trod enc Tryz.prog W 0 (fun _ => true) true fuel 30 cs = some x → ∃ e : Ex, cs = encEx e ∧ ExOk W e ∧ ExI e ∧ sizX e ≤ Rows.uptoBulk x.1 := by
  intro fuel
  induction fuel using Nat.strongRecOn with
  | _ fuel ih =>
    intro cs x h
    obtain ⟨xs, n, hfu, rfl, hl, hxl, hf⟩ := DataW.trod_struct Tryz.underlying30 h
    rw [Tryz.cellsX] at hl
    match cs, hl with
    | [c0, c1, c2, c3, c4, c5, c6, c7, c8, c9, c10], _ =>
      have hx : xs.length = 9 := hxl
      have g0 : DataW.trod enc Tryz.prog W 0 (fun _ => true) true n 3 [c0] = some (xs[0]'(by omega)) := field_of hf 0 3 0 1 _ rfl rfl rfl Tryz.cellsI (by omega)
      have g1 : DataW.trod enc Tryz.prog W 0 (fun _ => true) true n 3 [c1] = some (xs[1]'(by omega)) := field_of hf 1 3 1 1 _ rfl rfl rfl Tryz.cellsI (by omega)
      have g2 : DataW.trod enc Tryz.prog W 0 (fun _ => true) true n 4 [c2] = some (xs[2]'(by omega)) := field_of hf 2 4 2 1 _ rfl rfl rfl Tryz.cellsB (by omega)
      have g3 : DataW.trod enc Tryz.prog W 0 (fun _ => true) true n 27 [c3, c4, c5] = some (xs[3]'(by omega)) := field_of hf 3 27 3 3 _ rfl rfl rfl Tryz.cells27 (by omega)
      have g4 : DataW.trod enc Tryz.prog W 0 (fun _ => true) true n 3 [c6] = some (xs[4]'(by omega)) := field_of hf 4 3 6 1 _ rfl rfl rfl Tryz.cellsI (by omega)
      have g5 : DataW.trod enc Tryz.prog W 0 (fun _ => true) true n 3 [c7] = some (xs[5]'(by omega)) := field_of hf 5 3 7 1 _ rfl rfl rfl Tryz.cellsI (by omega)
      have g6 : DataW.trod enc Tryz.prog W 0 (fun _ => true) true n 3 [c8] = some (xs[6]'(by omega)) := field_of hf 6 3 8 1 _ rfl rfl rfl Tryz.cellsI (by omega)
      have g7 : DataW.trod enc Tryz.prog W 0 (fun _ => true) true n 22 [c9] = some (xs[7]'(by omega)) := field_of hf 7 22 9 1 _ rfl rfl rfl Tryz.cellsLX (by omega)
      have g8 : DataW.trod enc Tryz.prog W 0 (fun _ => true) true n 28 [c10] = some (xs[8]'(by omega)) := field_of hf 8 28 10 1 _ rfl rfl rfl Tryz.cellsLR (by omega)
      obtain ⟨z0, e0, _, w0⟩ := DataW.trod_int Tryz.underlying3 g0
      obtain ⟨z1, e1, _, w1⟩ := DataW.trod_int Tryz.underlying3 g1
      obtain ⟨z2, e2, _⟩ := DataW.trod_bool Tryz.underlying4 g2
      obtain ⟨d, e3, hI⟩ := open_dat g3
      obtain ⟨z4, e4, _, w4⟩ := DataW.trod_int Tryz.underlying3 g4
      obtain ⟨z5, e5, _, w5⟩ := DataW.trod_int Tryz.underlying3 g5
      obtain ⟨z6, e6, _, w6⟩ := DataW.trod_int Tryz.underlying3 g6
      obtain ⟨v, L, Ds, e7, hV, hDl, hG, hB⟩ := open_list (enc' := encEx) (fun e d => ExOk W e ∧ ExI e ∧ sizX e ≤ Rows.uptoBulk d) Tryz.underlying22 Tryz.cellsX (by decide) hkEx (fun m hm cs y hy => ih m (by omega) cs y hy) g7
      have e8 : ∃ sA sn sc, c10 = .slice sA sn sc := by
        rcases DataW.trod_slice Tryz.underlying28 g8 with ⟨e, _⟩ | ⟨a, len, cap, _, _, _, _, e, _⟩
        · injection e with e
          exact ⟨_, _, _, e⟩
        · injection e with e
          exact ⟨_, _, _, e⟩
      injection e0 with e0
      injection e1 with e1
      injection e2 with e2
      unfold encDat at e3
      injection e3 with e30 e3
      injection e3 with e31 e3
      injection e3 with e32 e3
      injection e4 with e4
      injection e5 with e5
      injection e6 with e6
      injection e7 with e7
      subst e0 e1 e2 e30 e31 e32 e4 e5 e6 e7
      have key : ∀ x ∈ L, ExOk W x ∧ ExI x := fun r hr => by
        obtain ⟨i, hi⟩ := List.getElem?_of_mem hr
        have hil := (List.getElem?_eq_some_iff.mp hi).1
        have h3 := hG i r _ hi (List.getElem?_eq_getElem (by omega))
        exact ⟨h3.1, h3.2.1⟩
      refine ⟨⟨z0, z1, z2, d, z4, z5, z6, c9, c10, L⟩, rfl, ⟨_, hV, e8, fun x hx => (key x hx).1⟩, ⟨_, hI, ⟨w4, w5⟩, fun x hx => (key x hx).2⟩, ?_⟩
      rw [sizX_eq]
      simp only [Rows.uptoBulk]
      have h1 := sizXs_bulk L Ds hDl fun i a d ha hd => (hG i a d ha hd).2.2
      have h2 := bulk_mem (l := xs.map (·.1)) (List.mem_map.2 ⟨xs[7], List.getElem_mem _, rfl⟩)
      omega
end

end Go.Proofs.YtippffjhkinfoaaGreatDoor

namespace Go.Proofs.YtippffjhkinfoaaGreatDoor
open Go.ChangeShapes Go.WideShapes Go.ChangeAt Go.RowKit Go.Joins Go.Deep

section
variable {H : Type} {enc : TypeId × Value → H} {W : World}
/-- Expressions that came in. -/
theorem open_exl {fuel : Nat} {cs : List Value} {x : DataW H × List MemPlace} (h : DataW.trod enc Tryz.prog W 0 (fun _ => true) true fuel 22 cs = some x) :
    ∃ (v : Value) (L : List Ex), cs = [v] ∧ ExsV W v L ∧ (∀ e ∈ L, ExOk W e ∧ ExI e) ∧ sizXs L ≤ Rows.uptoBulk x.1 := by
  obtain ⟨v, L, Ds, h1, h2, h3, h4, h5⟩ := open_list (enc' := encEx) (fun e d => ExOk W e ∧ ExI e ∧ sizX e ≤ Rows.uptoBulk d) Tryz.underlying22 Tryz.cellsX (by decide) hkEx (fun n _ cs y hy => by
    obtain ⟨e, a, b, c, d⟩ := open_ex n cs y hy
    exact ⟨e, a, b, c, d⟩) h
  refine ⟨v, L, h1, h2, fun e he => ?_, ?_⟩
  · obtain ⟨i, hi⟩ := List.getElem?_of_mem he
    have hil := (List.getElem?_eq_some_iff.mp hi).1
    have h6 := h4 i e _ hi (List.getElem?_eq_getElem (by omega))
    exact ⟨h6.1, h6.2.1⟩
  · have := sizXs_bulk L Ds h3 fun i a d ha hd => (h4 i a d ha hd).2.2
    omega
theorem len_bulk : ∀ Ds : List (DataW H), Ds.length ≤ Rows.uptoBulkAll Ds
  | [] => by simp [Rows.uptoBulkAll]
  | d :: r => by have h1 := bulk_one d; have h2 := len_bulk r; simp only [Rows.uptoBulkAll, List.length_cons]; omega
/-- Values that came in, and how many. -/
theorem open_datl_len {fuel : Nat} {t : TypeId} (ht : Tryz.prog.underlying t = some (.slice 27)) {cs : List Value} {x : DataW H × List MemPlace} (h : DataW.trod enc Tryz.prog W 0 (fun _ => true) true fuel t cs = some x) :
    ∃ (v : Value) (l : List Dat), cs = [v] ∧ DatV W v l ∧ (∀ d ∈ l, InI d) ∧ l.length ≤ Rows.uptoBulk x.1 := by
  obtain ⟨v, L, Ds, h1, h2, h3, h4, h5⟩ := open_list (enc' := encDat) (fun d _ => InI d) ht Tryz.cells27 (by decide) hkDat (fun n _ cs y hy => open_dat hy) h
  refine ⟨v, L, h1, h2, fun d hd => ?_, ?_⟩
  · obtain ⟨i, hi⟩ := List.getElem?_of_mem hd
    have hil := (List.getElem?_eq_some_iff.mp hi).1
    exact h4 i d _ hi (List.getElem?_eq_getElem (by omega))
  · have := len_bulk Ds
    omega
/-- Rows of scopes that came in, and how many. -/
theorem open_env_len {fuel : Nat} {cs : List Value} {x : DataW H × List MemPlace} (h : DataW.trod enc Tryz.prog W 0 (fun _ => true) true fuel 23 cs = some x) :
    ∃ (v : Value) (env : Env), cs = [v] ∧ EnvV W v env ∧ (∀ r ∈ env, ∀ d ∈ r.l, InI d) ∧ env.length ≤ Rows.uptoBulk x.1 ∧ ∀ r ∈ env, r.l.length ≤ Rows.uptoBulk x.1 := by
  obtain ⟨v, L, Ds, h1, h2, h3, h4, h5⟩ := open_list (enc' := encRw) (fun r d => DatV W r.v r.l ∧ (∀ d ∈ r.l, InI d) ∧ r.l.length ≤ Rows.uptoBulk d) Tryz.underlying23 Tryz.cellsRow (by decide) hkRw (fun n _ cs y hy => by
    obtain ⟨v, l, a, b, c, d⟩ := open_datl_len Tryz.underlying40 hy
    exact ⟨⟨v, l⟩, a, b, c, d⟩) h
  have key : ∀ r ∈ L, DatV W r.v r.l ∧ (∀ d ∈ r.l, InI d) ∧ r.l.length ≤ Rows.uptoBulk x.1 := fun r hr => by
    obtain ⟨i, hi⟩ := List.getElem?_of_mem hr
    have hil := (List.getElem?_eq_some_iff.mp hi).1
    have h6 := h4 i r _ hi (List.getElem?_eq_getElem (by omega))
    have h7 := bulk_mem (List.getElem_mem (l := Ds) (n := i) (by omega))
    exact ⟨h6.1, h6.2.1, by omega⟩
  have h8 := len_bulk Ds
  exact ⟨v, L, h1, ⟨h2, fun r hr => (key r hr).1⟩, fun r hr => (key r hr).2.1, by omega, fun r hr => (key r hr).2.2⟩
end

end Go.Proofs.YtippffjhkinfoaaGreatDoor

namespace Go.Proofs.YtippffjhkinfoaaGreatDoor
open Go.RowKit

def TrueB (w : World) (e : Ending) (w' : World) : Prop := e = .returned (.bool true) ∧ Below w.heap.size w w'

set_option maxRecDepth 100000 in
theorem small7 (w : World) : Calls Tryz.prog 72 #[.int .i64 7] w fun e w' => e = .returned (.string ⟨#[55]⟩) ∧ Below w.heap.size w w' := by
  go_enter Tryz.func72, Tryz.ntmps72
  go_wp2_with fail
  exact bodyPost_ret (v := .string ⟨#[55]⟩) (by simp only [results, Tryz.results72]; first | kernel_rfl | rfl | decide) rfl ⟨rfl, Below.refl _ _⟩
set_option maxRecDepth 100000 in
theorem format7i (w : World) : Calls Tryz.prog 53 #[.int .i64 7, .int .i64 10] w fun e w' => e = .returned (.string ⟨#[55]⟩) ∧ Below w.heap.size w w' := by
  go_enter Tryz.func53, Tryz.ntmps53
  go_wp2_with (go_at_call 72; (with_reducible refine (small7 _).mono ?_); rintro e w5 ⟨rfl, hb5⟩)
  exact bodyPost_ret (v := .string ⟨#[55]⟩) (by simp only [results, Tryz.results53]; first | kernel_rfl | rfl | decide) rfl ⟨rfl, hb5⟩
set_option maxRecDepth 100000 in
theorem format7 (w : World) : Calls Tryz.prog 29 #[.int .i64 7, .int .i64 10] w fun e w' => e = .returned (.string ⟨#[55]⟩) ∧ Below w.heap.size w w' := by
  go_enter Tryz.func29, Tryz.ntmps29
  go_wp2_with (go_at_call 53; (with_reducible refine (format7i _).mono ?_); rintro e w5 ⟨rfl, hb5⟩)
  exact bodyPost_ret (v := .string ⟨#[55]⟩) (by simp only [results, Tryz.results29]; first | kernel_rfl | rfl | decide) rfl ⟨rfl, hb5⟩
set_option maxRecDepth 100000 in
theorem print7 (w : World) : Calls Tryz.prog 13 #[.agg #[.int .i64 2, .int .i64 7, .string ⟨#[]⟩]] w fun e w' => e = .returned (.string ⟨#[55]⟩) ∧ Below w.heap.size w w' := by
  have hb1 := (Below.refl w.heap.size w).alloc (Nat.le_refl _) (.cells #[.int .i64 2, .int .i64 7, .string ⟨#[]⟩] 27)
  have bX := Blk.new w #[.int .i64 2, .int .i64 7, .string ⟨#[]⟩] 27
  go_enter Tryz.func13, Tryz.ntmps13
  go_wp2_with (first
    | (go_at_call 27; (with_reducible refine (right_yes 2 7 _ (by first | decide | simp [okSmall])).mono ?_); rintro e w4 ⟨rfl, rfl⟩; have h4 := hb1.alloc hb1.size (.cells #[.int .i64 2, .int .i64 7, .string noText] 27); have bX4 := bX.alloc (.cells #[.int .i64 2, .int .i64 7, .string noText] 27); have x0 := bX4.cell 0; have x1 := bX4.cell 1; simp only [List.getElem?_toArray, List.getElem?_cons_zero, List.getElem?_cons_succ] at x0 x1)
    | (go_at_call 29; (with_reducible refine (format7 _).mono ?_); rintro e w5 ⟨rfl, hb5⟩; have h5 := h4.trans (hb5.mono h4.size)))
  exact bodyPost_ret (v := .string ⟨#[55]⟩) (by simp only [results, Tryz.results13]; first | kernel_rfl | rfl | decide) rfl ⟨rfl, h5⟩

set_option maxRecDepth 100000 in
theorem alive_any (w : World) : Calls Tryz.prog 5 #[] w (TrueB w) := by
  go_enter Tryz.func5, Tryz.ntmps5
  go_wp2_with (go_at_call 13; (with_reducible refine (print7 _).mono ?_); rintro e w4 ⟨rfl, hb4⟩)
  exact bodyPost_ret (v := .bool true) (by simp only [results, Tryz.results5]; first | kernel_rfl | rfl | decide) rfl ⟨rfl, hb4⟩

end Go.Proofs.YtippffjhkinfoaaGreatDoor
