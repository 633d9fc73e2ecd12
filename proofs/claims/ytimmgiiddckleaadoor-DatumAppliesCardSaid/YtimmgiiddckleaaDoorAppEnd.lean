/-
  The program's Apply makes of any values what appR says.
  DatumApplies: the law returns true.
  The tables of unicode/utf8 stand where the listed variables read as the program's text lays them.
  What the frames of this seat's laws share: values that come in, opened.
  DatumApplies: for every input the law returns true, and its arguments read as they did; the tables of unicode/utf8 that the row lists start as the program's text lays them (the card ties them).
-/
import Derived.Test.YtimmgiiddckleaaDoorApps
import Derived.Test.YtimmgiiddckleaaDoorValid
import Derived.Test.YtimmgiiddckleaaDoorTie
import Derived.Test.YtimmgiiddckleaaDoorCards
import Derived.Lib.LaidU8T
import Derived.PinnedBridge
import Derived.Test.YtimmgiiddckleaaDoorRefL
import Derived.ProofKit
import Derived.OpenShut
import Derived.ShutString
import Derived.ChangeOld
import Derived.Below
import Derived.Lib.SmallJoins
import Derived.Lay
import Derived.LaidOnce
import Derived.SevenTiedAt
import Derived.Deep.Slices
import Derived.Deep.Fields
import Derived.ChangeSame
namespace Go.Proofs.YtimmgiiddckleaaDoor
open Go.RowKit

theorem apply_one (op : Int) (hop : op = 1 ∨ op = 2 ∨ op = 15 ∨ op = 18 ∨ op = 19 ∨ op = 20) (a : Dat) (v : Value) (w : World) (hv : DatV w v [a]) (hT : Tabs w) (ha : rightD a = true) (hI : InI a) :
    Calls Tryd.prog 6 #[.int .i64 op, v] w (ResT (oneR op a) w) := by
  have hA : [a].all rightD = true := by simp [ha]
  have hl : (([a] : List Dat).length : Int) = arityR op := by
    unfold arityR
    rw [if_pos hop]; rfl
  have hp : 0 < ([a] : List Dat).length := by simp
  have ch : (op = 1 ∨ op = 19 ∨ op = 20) → Calls Tryd.prog 6 #[.int .i64 op, v] w (ResT (unR op a) w) := fun ho =>
    apply_change op ho [a] v w hv a rfl hT hp hl hA _ (Lib.hid fun w' => change_any op ho a ha hI w')
  unfold oneR
  rcases hop with rfl | rfl | rfl | rfl | rfl | rfl
  · exact ch (.inl rfl)
  · rw [if_neg (by decide), if_pos rfl]
    exact apply_not 2 rfl [a] v w hv a rfl hT hp hl hA _ (Lib.hid fun w' => not_any a.k a.i a.s w')
  · rw [if_pos rfl]
    exact apply_isnull 15 rfl [a] v w hv a rfl hT hp hl hA
  · rw [if_neg (by decide), if_neg (by decide), if_pos rfl]
    exact apply_length 18 rfl [a] v w hv a rfl hT hp hl hA _ (Lib.hid fun w' => plen_any a ha w')
  · exact ch (.inr (.inl rfl))
  · exact ch (.inr (.inr rfl))

theorem apply_two (op : Int) (hop : 3 ≤ op ∧ op ≤ 14) (a b : Dat) (v : Value) (w : World) (hv : DatV w v [a, b]) (hT : Tabs w) (ha : rightD a = true) (hb : rightD b = true) (hI : InI a) (hJ : InI b) :
    Calls Tryd.prog 6 #[.int .i64 op, v] w (ResT (bothR op a b) w) := by
  have hA : [a, b].all rightD = true := by simp [ha, hb]
  have hl : (([a, b] : List Dat).length : Int) = arityR op := by
    unfold arityR
    rw [if_neg (by omega), if_pos hop]; rfl
  have hp : 0 < ([a, b] : List Dat).length := by simp
  unfold bothR
  by_cases o13 : op = 13
  · subst o13
    rw [if_pos rfl]
    exact apply_and 13 rfl [a, b] v w hv a b rfl hT hp hl hA _ (Lib.hid fun w' => join_and a.k a.i a.s b.k b.i b.s w')
  · rw [if_neg o13]
    by_cases o14 : op = 14
    · subst o14
      rw [if_pos rfl]
      exact apply_or 14 rfl [a, b] v w hv a b rfl hT hp hl hA _ (Lib.hid fun w' => join_or a.k a.i a.s b.k b.i b.s w')
    · rw [if_neg o14]
      by_cases oc : 7 ≤ op ∧ op ≤ 12
      · rw [if_pos oc]
        have h6 : op = 7 ∨ op = 8 ∨ op = 9 ∨ op = 10 ∨ op = 11 ∨ op = 12 := by omega
        exact apply_relate op h6 [a, b] v w hv a b rfl hT hp hl hA _ (Lib.hid fun w' => relate_any op h6 a b ha hb hI hJ w')
      · rw [if_neg oc]
        have h4 : op = 3 ∨ op = 4 ∨ op = 5 ∨ op = 6 := by omega
        exact apply_reckon op h4 [a, b] v w hv a b rfl hT hp hl hA _ (Lib.hid fun w' => reckon_any op h4 a b ha hb hI hJ w')

/-- The program's Apply. -/
theorem apply_any (op : Int) (L : List Dat) (v : Value) (w : World) (hv : DatV w v L) (hT : Tabs w) (hI : ∀ d ∈ L, InI d) :
    Calls Tryd.prog 6 #[.int .i64 op, v] w (ResT (appR op L) w) := by
  by_cases hm : arityR op = 0
  · unfold appR
    rw [if_pos (.inl hm)]
    exact apply_none op L v w hv hm
  · by_cases hl : (L.length : Int) = arityR op
    · cases ha : L.all rightD
      · unfold appR
        rw [if_pos (.inr (.inr ha))]
        refine apply_bad op L v w hv hT ?_ hl ha
        rcases arity_cases hm with h | h <;> omega
      · rw [appR_eq hm hl ha]
        rcases arity_cases hm with ⟨h1, h2⟩ | ⟨h1, h2⟩
        · match L, hv, hI, hl, ha with
          | [a], hv, hI, hl, ha => exact apply_one op h2 a v w hv hT (by simpa using ha) (hI a (by simp))
          | [], _, _, hl, _ => rw [h1] at hl; exact absurd hl (by decide)
          | _ :: _ :: _, _, _, hl, _ => rw [h1] at hl; simp at hl; omega
        · match L, hv, hI, hl, ha with
          | [a, b], hv, hI, hl, ha =>
            simp only [List.all_cons, List.all_nil, Bool.and_true, Bool.and_eq_true] at ha
            exact apply_two op h2 a b v w hv hT ha.1 ha.2 (hI a (by simp)) (hI b (by simp))
          | [], _, _, hl, _ => rw [h1] at hl; exact absurd hl (by decide)
          | [_], _, _, hl, _ => rw [h1] at hl; simp at hl
          | _ :: _ :: _ :: _, _, _, hl, _ => rw [h1] at hl; simp at hl; omega
    · unfold appR
      rw [if_pos (.inr (.inl hl))]
      exact apply_len op L v w hv hm hl

/-- The first so many of a list. -/
theorem DatV.take {w : World} {A : Option Addr} {c : Nat} {L : List Dat} (h : DatV w (.slice A L.length c) L) (n : Nat) (hn : n ≤ L.length) : DatV w (.slice A n c) (L.take n) := by
  have hl : (L.take n).length = n := by rw [List.length_take]; omega
  rcases h with ⟨e, rfl⟩ | ⟨b, off, cap, e, hm, hlt, hat, hc⟩
  · injection e with e1 e2 e3
    subst e1 e3
    obtain rfl : n = 0 := by simpa using hn
    exact .inl ⟨rfl, rfl⟩
  · injection e with e1 e2 e3
    subst e1 e3
    refine .inr ⟨b, off, c, by rw [hl], by rw [hl]; omega, hlt, ?_, by rw [hl]; omega⟩
    intro i x hi r u hr
    refine hat i x ?_ r u hr
    rw [List.getElem?_take] at hi
    split at hi
    · exact hi
    · cases hi

end Go.Proofs.YtimmgiiddckleaaDoor

namespace Go.Proofs.YtimmgiiddckleaaDoor
open Go.RowKit

theorem run_eq_self (k i : Int) (w : World) :
    (binOp .eql 24 (.agg #[.int .i64 k, .int .i64 i, .string noText]) (.agg #[.int .i64 k, .int .i64 i, .string noText])).run Tryd.prog w = .ok (.bool true) w := by
  rw [run_eq_datum]
  simp

set_option maxRecDepth 100000 in
set_option maxHeartbeats 8000000 in
theorem applies_few (op : Int) (L : List Dat) (v : Value) (w : World) (hv : DatV w v L) (hT : Tabs w) (hI : ∀ d ∈ L, InI d) (hl : L.length ≤ 5) :
    Calls Tryd.prog 3 #[.int .i64 op, v] w fun e w' => e = .returned (.bool true) ∧ Below w.heap.size w w' := by
  obtain ⟨A, c, rfl, hc, hm⟩ := hv.len
  have hl5 : ¬ ((5 : Int) < L.length) := by omega
  have HA := Lib.hid (apply_any op L _ w hv hT hI)
  have HB := Lib.hid (fun w' (hb : Below w.heap.size w w') => refApply_any op L _ w' (hv.below hb) hI)
  clear hl
  clear hv hT hI
  generalize appR op L = t at HA HB
  obtain ⟨K, I, E⟩ := t
  unfold ResT ResPost at HA HB
  simp only at HA HB
  have HE := fun w => run_eq_self K I w
  go_enter Tryd.func3, Tryd.ntmps3
  go_wp2_with (first
    | (go_at_call 6; (with_reducible refine HA.out.mono ?_); rintro e w5 ⟨rfl, hb5⟩; have h5 := hb5.alloc hb5.size (.cells #[.int .i64 K, .int .i64 I, .string noText] 24); have b5 := Blk.new w5 #[.int .i64 K, .int .i64 I, .string noText] 24)
    | (go_at_call 7; have hC := HB.out _ h5; (with_reducible refine hC.mono ?_); clear hC; rintro e w6 ⟨rfl, hb6⟩; have b6 := b5.below hb6; have h6 := h5.trans (hb6.mono h5.size); have b7 := b6.alloc (.cells #[.int .i64 K, .int .i64 I, .string noText] 24); have y0 := b7.cell 0; have y1 := b7.cell 1; have y2 := b7.cell 2; simp only [List.getElem?_toArray, List.getElem?_cons_zero, List.getElem?_cons_succ] at y0 y1 y2))
  go_ret
  exact ⟨rfl, h6.alloc h6.size _⟩

set_option maxRecDepth 100000 in
set_option maxHeartbeats 8000000 in
theorem applies_many (op : Int) (L : List Dat) (v : Value) (w : World) (hv : DatV w v L) (hT : Tabs w) (hI : ∀ d ∈ L, InI d) (hl : 5 < L.length) :
    Calls Tryd.prog 3 #[.int .i64 op, v] w fun e w' => e = .returned (.bool true) ∧ Below w.heap.size w w' := by
  obtain ⟨A, c, rfl, hc, hm⟩ := hv.len
  have hl5 : (5 : Int) < L.length := by omega
  have hc5 : (5 : Int) ≤ c := by omega
  have hv5 := hv.take 5 (by omega)
  obtain ⟨b, off, rfl⟩ : ∃ b off, A = some ⟨b, off, none⟩ := by
    rcases hv with ⟨e, rfl⟩ | ⟨b, off, cap, e, _, _, _, _⟩
    · simp at hl
    · injection e with e1 _ _
      exact ⟨b, off, e1⟩
  obtain ⟨M, hM⟩ : ∃ M, L.take 5 = M := ⟨_, rfl⟩
  rw [hM] at hv5
  have hI5 : ∀ d ∈ M, InI d := fun d hd => hI d (List.mem_of_mem_take (hM ▸ hd))
  have HA := Lib.hid (apply_any op M _ w hv5 hT hI5)
  have HB := Lib.hid (fun w' (hb : Below w.heap.size w w') => refApply_any op M _ w' (hv5.below hb) hI5)
  clear hM hl hI5 hv5
  clear hv hT hI
  generalize appR op M = t at HA HB
  obtain ⟨K, I, E⟩ := t
  unfold ResT ResPost at HA HB
  simp only at HA HB
  have HE := fun w => run_eq_self K I w
  go_enter Tryd.func3, Tryd.ntmps3
  go_wp2_with (first
    | (go_at_call 6; (with_reducible refine HA.out.mono ?_); rintro e w5 ⟨rfl, hb5⟩; have h5 := hb5.alloc hb5.size (.cells #[.int .i64 K, .int .i64 I, .string noText] 24); have b5 := Blk.new w5 #[.int .i64 K, .int .i64 I, .string noText] 24)
    | (go_at_call 7; have hC := HB.out _ h5; (with_reducible refine hC.mono ?_); clear hC; rintro e w6 ⟨rfl, hb6⟩; have b6 := b5.below hb6; have h6 := h5.trans (hb6.mono h5.size); have b7 := b6.alloc (.cells #[.int .i64 K, .int .i64 I, .string noText] 24); have y0 := b7.cell 0; have y1 := b7.cell 1; have y2 := b7.cell 2; simp only [List.getElem?_toArray, List.getElem?_cons_zero, List.getElem?_cons_succ] at y0 y1 y2))
  go_ret
  exact ⟨rfl, h6.alloc h6.size _⟩

theorem applies_any (op : Int) (L : List Dat) (v : Value) (w : World) (hv : DatV w v L) (hT : Tabs w) (hI : ∀ d ∈ L, InI d) :
    Calls Tryd.prog 3 #[.int .i64 op, v] w fun e w' => e = .returned (.bool true) ∧ Below w.heap.size w w' := by
  by_cases hl : L.length ≤ 5
  · exact applies_few op L v w hv hT hI hl
  · exact applies_many op L v w hv hT hI (by omega)

end Go.Proofs.YtimmgiiddckleaaDoor

namespace Go.Proofs.YtimmgiiddckleaaDoor
open Go.RowKit

theorem tabs_of {w : World} (h3 : Lib.VarReads Tryd.prog w "unicode/utf8.first" Rows.laid_unicode_utf8_first) (h4 : Lib.VarReads Tryd.prog w "unicode/utf8.acceptRanges" Rows.laid_unicode_utf8_acceptRanges) : Tabs w := by
  have e3 : Rows.laid_unicode_utf8_first = Lib.firstData := Pinned.utf8First_eq
  have e4 : (Rows.laid_unicode_utf8_acceptRanges : DataW Unit) = Lib.acceptData := by kernel_rfl
  rw [e3] at h3
  rw [e4] at h4
  exact utf8Tabs_of_readsT (U8Types.of196 Tryd.laysValid) ⟨by kernel_rfl, by kernel_rfl, by kernel_rfl, by kernel_rfl, by kernel_rfl, by kernel_rfl, by kernel_rfl⟩ h3 h4

end Go.Proofs.YtimmgiiddckleaaDoor

namespace Go.Proofs.YtimmgiiddckleaaDoor
open Go.ChangeShapes Go.WideShapes Go.ChangeAt Go.RowKit Go.Joins Go.Deep

theorem Tryd.own : ownKnob Tryd.prog.godebug = none := by kernel_rfl
theorem Tryd.laidOut : laidOutB Tryd.prog = true := by kernel_rfl
theorem Tryd.cells24 : Tryd.prog.cellsOf 24 = 3 := by kernel_rfl

theorem bounds_i64 {x : Int} (wx : (Lit.int .i64 x).wf = true) : -9223372036854775808 ≤ x ∧ x ≤ 9223372036854775807 := by
  simpa [Lit.wf, IntKind.min, IntKind.max, IntKind.signed, IntKind.bits] using wx

section
variable {H : Type} {enc : TypeId × Value → H} {P : Program} {w : World} {base : Nat} {spare : Nat → Bool} {held : Bool}
theorem open_slice_fields {t e : TypeId} {fs : Array Field} {fuel : Nat} {cs : List Value} {x : DataW H × List MemPlace} (ht : P.underlying t = some (.slice e)) (he : P.underlying e = some (.struct fs))
    (hone : oneCellFields P fs = true) (hC : P.cellsOf e = fs.size) (h : DataW.trod enc P w base spare held fuel t cs = some x) :
    (cs = [.slice none 0 0] ∧ x = (.nil, [])) ∨
    ∃ (a : Addr) (len cap m : Nat), cs = [.slice (some a) len cap] ∧ len ≤ cap ∧ cap ≤ maxLen ∧ m = (if spare a.block then cap else len) ∧
      ∀ i, i < m → ∀ (j : Nat) (f : Field), fs[j]? = some f → ∃ (v : Value) (y : DataW H × List MemPlace) (n : Nat), w.cell? (a.add (i * fs.size + j)) = some v ∧ DataW.trod enc P w base spare held n f.type [v] = some y := by
  rcases open_slice ht h with h0 | ⟨a, len, cap, m, n, D, Pl, hcs, hb, hl, hm, hmm, hx, hi⟩
  · exact .inl h0
  · refine .inr ⟨a, len, cap, m, hcs, hl, hm, hmm, fun i him => ?_⟩
    obtain ⟨cs', hc, ht'⟩ := hi i him
    rw [hC] at hc
    obtain ⟨ys, n', hn', hy, hlen, hyl, hf⟩ := DataW.trod_struct he ht'
    obtain ⟨_, hcl, hat⟩ := World.cells?_some hc
    intro j f hj
    obtain ⟨ho, hk⟩ := hone_of hone j f hj
    have hjl : j < fs.size := (Array.getElem?_eq_some_iff.1 hj).1
    have hcell := hat j hjl
    have hv : cs'[j]? = some (cs'[j]'(by omega)) := List.getElem?_eq_getElem (by omega)
    have h1 := hf j f hj
    rw [ho, hk] at h1
    have hone' : (cs'.drop j).take 1 = [cs'[j]'(by omega)] := by
      rw [List.drop_eq_getElem_cons (by omega)]
      rfl
    rw [hone'] at h1
    have hys : ys[j]? = some (ys[j]'(by omega)) := List.getElem?_eq_getElem (by omega)
    refine ⟨_, _, _, ?_, h1.trans hys⟩
    rw [← Go.Deep.add_add, hcell, hv]
end

set_option maxRecDepth 100000 in
/-- Values that come in, opened. -/
theorem open_dats {H : Type} {enc : TypeId × Value → H} {W : World} {r : Reach} {base : Nat} {v : Value} {d : DataW H} {p : List MemPlace}
    (hv : Value.okWide Tryd.prog W r base 22 v) (h : DataW.Trod enc Tryd.prog W 0 (fun _ => true) true 22 v d p) : ∃ l : List Dat, DatV W v l ∧ ∀ d ∈ l, InI d := by
  obtain ⟨a0, len, cap, rfl⟩ := okWide_slice Tryd.underlying22 hv
  obtain ⟨fuel, hf⟩ := h
  rcases open_slice_fields Tryd.underlying22 Tryd.underlying24 (by kernel_rfl) (by kernel_rfl) hf with ⟨hcs, hx⟩ | ⟨a, len', cap', m, hcs, hl, hm, hmm, hi⟩
  · simp [Value.cells] at hcs
    obtain ⟨rfl, rfl, rfl⟩ := hcs
    exact ⟨[], .inl ⟨rfl, rfl⟩, by simp⟩
  · simp [Value.cells] at hcs
    obtain ⟨rfl, rfl, rfl⟩ := hcs
    simp only [if_true] at hmm
    subst hmm
    simp only [Value.okWide, Tryd.underlying22, Cell.okWide, Cell.ok, World.has] at hv
    obtain ⟨_, _, _, hsp, row, cells, hsh, _⟩ := hv
    obtain ⟨b, off, spot⟩ := a
    simp only at hsp hsh
    subst hsp
    have hb : b < W.heap.size := by
      rcases Nat.lt_or_ge b W.heap.size with h | h
      · exact h
      · simp [World.shape?, Array.getElem?_eq_none h] at hsh
    have key : ∀ i, ∃ d : Dat, i < m → (InI d ∧ W.cell? ⟨b, off + i * 3, none⟩ = some (.int .i64 d.k) ∧ W.cell? ⟨b, off + i * 3 + 1, none⟩ = some (.int .i64 d.i) ∧ W.cell? ⟨b, off + i * 3 + 2, none⟩ = some (.string d.s)) := by
      intro i
      by_cases him : i < m
      · obtain ⟨v0, y0, n0, c0, t0⟩ := hi i him 0 _ rfl
        obtain ⟨v1, y1, n1, c1, t1⟩ := hi i him 1 _ rfl
        obtain ⟨v2, y2, n2, c2, t2⟩ := hi i him 2 _ rfl
        obtain ⟨z0, e0, rfl, w0⟩ := DataW.trod_int Tryd.underlying3 t0
        obtain ⟨z1, e1, rfl, w1⟩ := DataW.trod_int Tryd.underlying2 t1
        obtain ⟨z2, e2, rfl, w2⟩ := DataW.trod_string Tryd.underlying9 t2
        simp at e0 e1 e2
        subst e0 e1 e2
        have ea : ∀ q : Nat, (⟨b, off, none⟩ : Addr).add q = ⟨b, off + q, none⟩ := by intro q; unfold Addr.add; split <;> simp_all
        rw [ea] at c0 c1 c2
        exact ⟨⟨z0, z1, z2⟩, fun _ => ⟨bounds_i64 w1, c0, c1, c2⟩⟩
      · exact ⟨⟨0, 0, ByteArray.empty⟩, fun h => absurd h him⟩
    have hlen' : ((List.range len).map fun i => Classical.choose (key i)).length = len := by simp
    refine ⟨(List.range len).map fun i => Classical.choose (key i), .inr ⟨b, off, m, ?_, by rw [hlen']; omega, hb, ?_, by rw [hlen']; omega⟩, ?_⟩
    · rw [hlen']
    · intro k d hk r u hr
      rw [List.getElem?_map] at hk
      have hkl : k < len := by
        rcases Nat.lt_or_ge k len with h | h
        · exact h
        · rw [List.getElem?_eq_none (by simpa using h)] at hk; cases hk
      rw [List.getElem?_range hkl] at hk
      simp only [Option.map_some, Option.some.injEq] at hk
      subst hk
      have := (Classical.choose_spec (key k)) (by omega)
      match r, hr with
      | 0, hr => cases hr; exact this.2.1
      | 1, hr => cases hr; exact this.2.2.1
      | 2, hr => cases hr; exact this.2.2.2
      | r + 3, hr => cases hr
    · intro d hd
      simp only [List.mem_map, List.mem_range] at hd
      obtain ⟨i, hi', rfl⟩ := hd
      exact ((Classical.choose_spec (key i)) (by omega)).1

end Go.Proofs.YtimmgiiddckleaaDoor

namespace Go.Proofs.YtimmgiiddckleaaDoor
open Go.ChangeShapes Go.WideShapes Go.ChangeAt Go.RowKit Go.Joins

set_option linter.unusedVariables false in
set_option maxRecDepth 100000 in
theorem datumApplies_lifted (os : Os) (started : os.Started) (H : Type) (enc : TypeId × Value → H) :
    ReturnsInHanded {} Tryd.checked os 3 .any (fun w args => (Rows.datumAppliesSpec.pre enc Tryd.prog Tryd.f3 [] false w args ∧ laidMetH Tryd.prog Rows.datumAppliesRow.laid w) ∧ sizedMet enc Tryd.prog Tryd.f3 (OpenSpec.ofChange Rows.datumAppliesSpec) false w args)
      (Rows.datumAppliesSpec.post enc Tryd.prog Tryd.f3 false true false false) := by
  refine returnsInHanded_of_change_and (C := Tryd.checked) (X := fun w _ => laidMetH Tryd.prog Rows.datumAppliesRow.laid w) (fun _ _ _ hh h => h.of_heap hh) Tryd.own started (by kernel_rfl) Tryd.func3
    (ChangeSpec.witness_shaped (enc := enc) (C := Tryd.checked) (os := os) (X := fun w _ => laidMetH Tryd.prog Rows.datumAppliesRow.laid w) false (World.laidAll Tryd.prog os Rows.datumAppliesRow.laid) #[.int .i64 0, .slice none 0 0] 8 (World.laidAll_os _ _ _)
      (World.shaped_of_ZipB (by kernel_rfl) (by kernel_rfl)) (by kernel_rfl) (by kernel_rfl) (by kernel_rfl)
      (by rw [MakeChecks.laidMetH_plain _ _ _ (by kernel_rfl)]; exact laidMet_laidAll _ (by kernel_rfl) (by kernel_rfl))) ?_
  intro W base args ds gs before hval0 hW _ _ hL _
  have hL' : laidMet Tryd.prog Rows.datumAppliesRow.laid W := by rw [MakeChecks.laidMetH_plain _ _ _ (by kernel_rfl)] at hL; exact hL
  have hT : Tabs W := tabs_of (Lib.laidMet.reads hL' (List.Mem.tail _ (List.Mem.head _))) (Lib.laidMet.reads hL' (List.Mem.head _))
  have hval : ∀ (j : Nat) t v, Tryd.f3.params[j]? = some t → args[j]? = some v → Value.okWide Tryd.prog W .any base t v := hval0
  have hW' := hW
  obtain ⟨p, q, hA0, hV, rfl, _, _⟩ := hW
  have hA : DataW.TrodAll enc Tryd.prog W 0 (fun _ => true) true Tryd.f3.params.toList args.toList ds p := hA0
  rw [Tryd.params3] at hA hval
  obtain ⟨v0, v1, d0, d1, p0, p1, rfl, rfl, rfl, h0, h1⟩ := trodAll_two hA
  obtain ⟨rfl, rfl⟩ := trodVars_none hV
  obtain ⟨x0, rfl, rfl, rfl, w0⟩ := open_int Tryd.underlying3 (hval 0 3 v0 rfl rfl) h0
  have c1 := h1
  have lt1 : ∀ x ∈ p1, x.block < W.heap.size := by obtain ⟨m, hm⟩ := c1; exact DataW.trod_lt m _ _ _ hm
  obtain ⟨l1, r1, i1⟩ := open_dats (hval 1 22 v1 rfl rfl) h1
  simp only [List.append_nil] at hW'
  refine (applies_any x0 l1 v1 W r1 hT i1).mono fun e W' ⟨he, bel⟩ => ?_
  subst he
  exact ⟨_, rfl, _, _, _, [], _, [], hW', trodAll_mk1 (shut_bool Tryd.underlying4 _), (trodAll_mk2 (shut_int Tryd.underlying3 w0) (Below.trod Tryd.laidOut (by kernel_rfl) (of_decide_eq_true (by kernel_rfl)) c1 bel lt1)), rfl, bel.frame _, fun h => by cases h⟩

theorem datumApplies_holds : Rows.DatumAppliesSaid :=
  OpenClaim.holds_of_wide 3 Tryd.f3 rfl rfl rfl rfl rfl rfl rfl ⟨rfl, rfl, rfl, rfl, rfl⟩ rfl rfl rfl rfl rfl (by kernel_rfl) Tryd.func3 (by kernel_rfl)
    (of_decide_eq_true (by kernel_rfl)) (by unfold Func.isWrapper; first | (rw [if_pos (by decide +kernel)]; kernel_rfl) | (rw [if_neg (by decide +kernel)]; exact ⟨rfl, rfl⟩))
    (fun os started H enc _ => datumApplies_lifted os started H enc)

theorem datumApplies_card_holds : Rows.DatumAppliesCardSaid :=
  Claim7.holds_tied_plain_at .later [] [.data, .pinned] true (true, "b0025aa587f31bbdd28e4229719f435c68e39783d2c06e1028cf36dcf5d7d918") true datumApplies_holds (fun _ h => by cases h) (by kernel_rfl) (fun _ h => by cases h) datumApplies_row_tie rfl ⟨rfl, rfl⟩ (by kernel_rfl) rfl
    (fun f fn hf hfn => by
      obtain rfl : f = 3 := Option.some.inj ((show Tryd.prog.funcNamed "freshet/freshetlaw01.DatumApplies" = some 3 by kernel_rfl).symm.trans hf) |>.symm
      obtain rfl : fn = Tryd.f3 := (Option.some.inj (Tryd.func3.symm.trans hfn)).symm
      exact ⟨by kernel_rfl, fun j t ht => by
        rw [Tryd.params3] at ht
        have hm : t ∈ [3, 22] := by simpa using Array.mem_of_getElem? ht
        have hall : ([3, 22].all fun u => !Tryd.prog.wantsStandIn u) = true := by kernel_rfl
        exact (show Tryd.prog.wantsStandIn t = false by simpa using List.all_eq_true.1 hall t hm)⟩)
    (by kernel_rfl)

#print axioms datumApplies_card_holds
end Go.Proofs.YtimmgiiddckleaaDoor
