/-
  What the frames of this seat's laws share: counted rows that come in, opened; that each slice and text within has room.
-/
import Derived.Test.YtciijaejldfcaaaTidy
import Derived.ProofKit
import Derived.OpenShut
import Derived.ShutString
import Derived.ChangeOld
import Derived.Below
import Derived.Lib.SmallJoins
import Derived.Deep.Slices
import Derived.Deep.Fields
import Derived.ChangeSame
import Derived.SizedLaws
namespace Go.Proofs.Ytciijaejldfcaaa
open Go.ChangeShapes Go.WideShapes Go.ChangeAt Go.RowKit Go.Joins Go.Deep

theorem Try.own : ownKnob Try.prog.godebug = none := by kernel_rfl
theorem Try.laidOut : laidOutB Try.prog = true := by kernel_rfl

theorem bounds_i64 {x : Int} (wx : (Lit.int .i64 x).wf = true) : -9223372036854775808 ≤ x ∧ x ≤ 9223372036854775807 := by
  simpa [Lit.wf, IntKind.min, IntKind.max, IntKind.signed, IntKind.bits] using wx

/-- All that a datum weighs has room. -/
def WOk {H : Type} (P : Program) (t : TypeId) (d : DataW H) : Prop := ∀ n ∈ d.weights P t, n ≤ reachBytes

theorem weightsAll_in {H : Type} {P : Program} {e : TypeId} : ∀ {l : List (DataW H)} {d : DataW H}, d ∈ l → ∀ n ∈ d.weights P e, n ∈ DataW.weightsAll P e l
  | d' :: r, d, hd, n, hn => by
    simp only [DataW.weightsAll, List.mem_append]
    rcases List.mem_cons.1 hd with rfl | h
    · exact Or.inl hn
    · exact Or.inr (weightsAll_in h n hn)

theorem addr_spot {w : World} {a : Addr} {q : Nat} {v : Value} (hq : q = 0) (h : w.cell? (a.add q) = some v) : a = ⟨a.block, a.off, none⟩ ∧ a.block < w.heap.size := by
  subst hq
  obtain ⟨b, o, s⟩ := a
  have e : (⟨b, o, s⟩ : Addr).add 0 = ⟨b, o, s⟩ := by unfold Addr.add; simp
  rw [e] at h
  have hb := World.block_lt_of_cell? _ _ h
  cases s with
  | none => exact ⟨rfl, hb⟩
  | some s =>
    exfalso
    unfold World.cell? at h
    split at h
    · simp at h
    · cases h

theorem addr_add (b off q : Nat) : (⟨b, off, none⟩ : Addr).add q = ⟨b, off + q, none⟩ := by unfold Addr.add; split <;> simp_all

section
variable {H : Type} {enc : TypeId × Value → H} {P : Program} {w : World} {base : Nat} {held : Bool}

theorem open_struct_slice {t e : TypeId} {fs : Array Field} {fuel : Nat} {cs : List Value} {x : DataW H × List MemPlace} (ht : P.underlying t = some (.slice e)) (he : P.underlying e = some (.struct fs))
    (hone : oneCellFields P fs = true) (hC : P.cellsOf e = fs.size) (h : DataW.trod enc P w base (fun _ => true) held fuel t cs = some x) (hw : WOk P t x.1) :
    cs = [.slice none 0 0] ∨
    ∃ (a : Addr) (len cap : Nat), cs = [.slice (some a) len cap] ∧ len ≤ cap ∧ cap ≤ maxLen ∧ cap * P.bytesOf e ≤ reachBytes ∧
      ∀ i, i < len → ∀ (j : Nat) (f : Field), fs[j]? = some f → ∃ (v : Value) (y : DataW H × List MemPlace) (n : Nat), w.cell? (a.add (i * fs.size + j)) = some v ∧ DataW.trod enc P w base (fun _ => true) held n f.type [v] = some y ∧ WOk P f.type y.1 := by
  rcases open_slice ht h with h0 | ⟨a, len, cap, m, n, D, Pl, hcs, hb, hl, hm, hmm, hx, hi⟩
  · exact .inl h0.1
  · simp only [if_true] at hmm
    subst hmm
    have hwx : ∀ k ∈ (DataW.slice ((List.range len).map D) ((List.range (m - len)).map fun j => D (len + j))).weights P t, k ≤ reachBytes := by
      have := hw
      rw [hx] at this
      exact this
    simp only [DataW.weights, ht, List.mem_cons, List.mem_append] at hwx
    refine .inr ⟨a, len, m, hcs, hl, hm, ?_, fun i hil => ?_⟩
    · have := hwx _ (.inl rfl)
      simp only [List.length_map, List.length_range] at this
      rwa [show len + (m - len) = m by omega] at this
    · obtain ⟨cs', hc, ht'⟩ := hi i (by omega)
      rw [hC] at hc
      have hdw : WOk P e (D i) := fun k hk => hwx k (.inr (.inl (weightsAll_in (List.mem_map.mpr ⟨i, List.mem_range.mpr hil, rfl⟩) k hk)))
      obtain ⟨ys, n', hn', hy, hlen, hyl, hf⟩ := DataW.trod_struct he ht'
      obtain ⟨_, hcl, hat⟩ := World.cells?_some hc
      intro j f hj
      obtain ⟨ho, hk⟩ := hone_of hone j f hj
      have hjl : j < fs.size := (Array.getElem?_eq_some_iff.1 hj).1
      have hcell := hat j hjl
      have hv : cs'[j]? = some (cs'[j]'(by omega)) := List.getElem?_eq_getElem (by omega)
      have h1 := hf j f hj
      rw [ho, hk] at h1
      have hone' : (cs'.drop j).take 1 = [cs'[j]'(by omega)] := by
        rw [List.drop_eq_getElem_cons (by omega)]
        rfl
      rw [hone'] at h1
      have hys : ys[j]? = some (ys[j]'(by omega)) := List.getElem?_eq_getElem (by omega)
      refine ⟨_, _, _, ?_, h1.trans hys, ?_⟩
      · rw [← Go.Deep.add_add, hcell, hv]
      · intro k hk'
        refine hdw k ?_
        have hDi : D i = .agg (ys.map (·.1)) := congrArg Prod.fst hy
        rw [hDi]
        simp only [DataW.weights, he]
        refine DataW.weights_mem_each (j := j) ?_ ?_ k hk'
        · rw [List.getElem?_map, Array.getElem?_toList, hj]; rfl
        · rw [List.getElem?_map, hys]; rfl
end

theorem Try.bytes51 : Try.prog.bytesOf 51 = 32 := by kernel_rfl
theorem Try.bytes44 : Try.prog.bytesOf 44 = 32 := by kernel_rfl
theorem reach_eq : reachBytes = 140737488351232 := rfl

set_option maxRecDepth 100000 in
/-- A row within what comes in, opened. -/
theorem open_row {H : Type} {enc : TypeId × Value → H} {W : World} {base fuel : Nat} {held : Bool} {v : Value} {y : DataW H × List MemPlace}
    (h : DataW.trod enc Try.prog W base (fun _ => true) held fuel 42 [v] = some y) (hw : WOk Try.prog 42 y.1) : ∃ l : List Dat, RowV W v l ∧ RowB l ∧ ∀ d ∈ l, InI d := by
  rcases open_struct_slice Try.underlying42 Try.underlying51 (by kernel_rfl) (by kernel_rfl) h hw with hcs | ⟨a, len, cap, hcs, hl, hm, hbb, hi⟩
  · simp at hcs
    subst hcs
    exact ⟨[], .inl ⟨_, _, rfl, rfl⟩, ⟨by simp, by simp⟩, by simp⟩
  · simp at hcs
    subst hcs
    rw [Try.bytes51, reach_eq] at hbb
    by_cases h0 : len = 0
    · subst h0
      exact ⟨[], .inl ⟨_, _, rfl, rfl⟩, ⟨by simp, by simp⟩, by simp⟩
    · obtain ⟨v00, _, _, c00, _, _⟩ := hi 0 (by omega) 0 _ rfl
      obtain ⟨ea, hb⟩ := addr_spot (by simp) c00
      obtain ⟨b, off, spot⟩ := a
      simp only at ea hb
      injection ea with _ _ e3
      subst e3
      have key : ∀ i, ∃ d : Dat, i < len → (InI d ∧ d.s.size ≤ 281474976710656 ∧ W.cell? ⟨b, off + i * 3, none⟩ = some (.int .i64 d.k) ∧ W.cell? ⟨b, off + i * 3 + 1, none⟩ = some (.int .i64 d.i) ∧ W.cell? ⟨b, off + i * 3 + 2, none⟩ = some (.string d.s)) := by
        intro i
        by_cases him : i < len
        · obtain ⟨v0, y0, n0, c0, t0, q0⟩ := hi i him 0 _ rfl
          obtain ⟨v1, y1, n1, c1, t1, q1⟩ := hi i him 1 _ rfl
          obtain ⟨v2, y2, n2, c2, t2, q2⟩ := hi i him 2 _ rfl
          obtain ⟨z0, e0, _, w0⟩ := DataW.trod_int Try.underlying3 t0
          obtain ⟨z1, e1, _, w1⟩ := DataW.trod_int Try.underlying2 t1
          obtain ⟨z2, e2, r2, w2⟩ := DataW.trod_string Try.underlying9 t2
          simp at e0 e1 e2
          subst e0 e1 e2
          rw [addr_add] at c0 c1 c2
          rw [r2] at q2
          have hz := q2 z2.data.toList.length (by simp [DataW.weights])
          rw [reach_eq] at hz
          have hz2 : z2.data.toList.length = z2.size := by rw [Array.length_toList]; rfl
          exact ⟨⟨z0, z1, z2⟩, fun _ => ⟨bounds_i64 w1, by simp only; omega, c0, c1, c2⟩⟩
        · exact ⟨⟨0, 0, ByteArray.empty⟩, fun h => absurd h him⟩
      have hlen' : ((List.range len).map fun i => Classical.choose (key i)).length = len := by simp
      have hmem : ∀ d ∈ (List.range len).map (fun i => Classical.choose (key i)), ∃ i, i < len ∧ Classical.choose (key i) = d := by
        intro d hd
        simp only [List.mem_map, List.mem_range] at hd
        exact hd
      refine ⟨(List.range len).map fun i => Classical.choose (key i), .inr ⟨b, off, cap, ?_, by rw [hlen']; omega, hb, ?_⟩, ⟨by rw [hlen']; omega, ?_⟩, ?_⟩
      · rw [hlen']
      · intro k d hk
        rw [List.getElem?_map] at hk
        have hkl : k < len := by
          rcases Nat.lt_or_ge k len with h | h
          · exact h
          · rw [List.getElem?_eq_none (by simpa using h)] at hk; cases hk
        rw [List.getElem?_range hkl] at hk
        simp only [Option.map_some, Option.some.injEq] at hk
        subst hk
        have := (Classical.choose_spec (key k)) hkl
        exact this.2.2
      · intro d hd
        obtain ⟨i, hi', rfl⟩ := hmem d hd
        exact ((Classical.choose_spec (key i)) hi').2.1
      · intro d hd
        obtain ⟨i, hi', rfl⟩ := hmem d hd
        exact ((Classical.choose_spec (key i)) hi').1

set_option maxRecDepth 100000 in
/-- Counted rows that come in, opened. -/
theorem open_counts {H : Type} {enc : TypeId × Value → H} {W : World} {r : Reach} {base : Nat} {v : Value} {d : DataW H} {p : List MemPlace}
    (hv : Value.okWide Try.prog W r base 22 v) (h : DataW.Trod enc Try.prog W 0 (fun _ => true) true 22 v d p) (hw : WOk Try.prog 22 d) :
    ∃ L : List Cnt, CntV W v L ∧ RowsIn W L ∧ ∀ x ∈ L, RowB x.l ∧ -9223372036854775808 ≤ x.n ∧ x.n ≤ 9223372036854775807 := by
  obtain ⟨a0, len, cap, rfl⟩ := okWide_slice Try.underlying22 hv
  obtain ⟨fuel, hf⟩ := h
  rcases open_struct_slice Try.underlying22 Try.underlying44 (by kernel_rfl) (by kernel_rfl) hf hw with hcs | ⟨a, len', cap', hcs, hl, hm, hbb, hi⟩
  · simp [Value.cells] at hcs
    obtain ⟨rfl, rfl, rfl⟩ := hcs
    exact ⟨[], .inl ⟨rfl, rfl⟩, by intro x hx; simp at hx, by simp⟩
  · simp [Value.cells] at hcs
    obtain ⟨rfl, rfl, rfl⟩ := hcs
    simp only [Value.okWide, Try.underlying22, Cell.okWide, Cell.ok, World.has] at hv
    obtain ⟨_, _, _, hsp, row, cells, hsh, _⟩ := hv
    obtain ⟨b, off, spot⟩ := a
    simp only at hsp hsh
    subst hsp
    have hb : b < W.heap.size := by
      rcases Nat.lt_or_ge b W.heap.size with h | h
      · exact h
      · simp [World.shape?, Array.getElem?_eq_none h] at hsh
    have key : ∀ i, ∃ x : Cnt, i < len → (RowV W x.v x.l ∧ RowB x.l ∧ (-9223372036854775808 ≤ x.n ∧ x.n ≤ 9223372036854775807) ∧ W.cell? ⟨b, off + i * 2, none⟩ = some x.v ∧ W.cell? ⟨b, off + i * 2 + 1, none⟩ = some (.int .i64 x.n)) := by
      intro i
      by_cases him : i < len
      · obtain ⟨v0, y0, n0, c0, t0, q0⟩ := hi i him 0 _ rfl
        obtain ⟨v1, y1, n1, c1, t1, q1⟩ := hi i him 1 _ rfl
        obtain ⟨z1, e1, _, w1⟩ := DataW.trod_int Try.underlying2 t1
        simp at e1
        subst e1
        rw [addr_add] at c0 c1
        obtain ⟨l, hr, hB, _⟩ := open_row t0 q0
        exact ⟨⟨v0, l, z1⟩, fun _ => ⟨hr, hB, bounds_i64 w1, c0, c1⟩⟩
      · exact ⟨⟨.slice none 0 0, [], 0⟩, fun h => absurd h him⟩
    have hlen' : ((List.range len).map fun i => Classical.choose (key i)).length = len := by simp
    have hmem : ∀ d ∈ (List.range len).map (fun i => Classical.choose (key i)), ∃ i, i < len ∧ Classical.choose (key i) = d := by
      intro d hd
      simp only [List.mem_map, List.mem_range] at hd
      exact hd
    refine ⟨(List.range len).map fun i => Classical.choose (key i), .inr ⟨b, off, cap, by rw [hlen'], by rw [hlen']; omega, hb, ?_, by rw [hlen']; exact hl⟩, ?_, ?_⟩
    · intro k x hk q u hq
      rw [List.getElem?_map] at hk
      have hkl : k < len := by
        rcases Nat.lt_or_ge k len with h | h
        · exact h
        · rw [List.getElem?_eq_none (by simpa using h)] at hk; cases hk
      rw [List.getElem?_range hkl] at hk
      simp only [Option.map_some, Option.some.injEq] at hk
      subst hk
      obtain ⟨_, _, _, g0, g1⟩ := (Classical.choose_spec (key k)) hkl
      match q, hq with
      | 0, hq => simp [encC] at hq; subst hq; exact g0
      | 1, hq => simp [encC] at hq; subst hq; exact g1
      | q + 2, hq => simp [encC] at hq
    · intro x hx
      obtain ⟨i, hi', rfl⟩ := hmem x hx
      exact ((Classical.choose_spec (key i)) hi').1
    · intro x hx
      obtain ⟨i, hi', rfl⟩ := hmem x hx
      obtain ⟨_, g1, g2, _⟩ := (Classical.choose_spec (key i)) hi'
      exact ⟨g1, g2⟩

/-- All that the arguments weigh has room. -/
theorem wok_of {H : Type} {P : Program} {ts : List TypeId} {ds : List (DataW H)} (h : (DataW.weightsEach P ts ds).all (· ≤ reachBytes) = true) {j : Nat} {t : TypeId} {d : DataW H} (ht : ts[j]? = some t) (hd : ds[j]? = some d) : WOk P t d :=
  fun n hn => of_decide_eq_true (List.all_eq_true.1 h _ (DataW.weights_mem_each ht hd n hn))

end Go.Proofs.Ytciijaejldfcaaa
