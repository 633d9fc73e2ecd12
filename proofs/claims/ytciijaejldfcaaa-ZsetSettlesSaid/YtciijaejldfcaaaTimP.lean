/-
  What ZsetTimes wants of updates: the cut of what comes in, and updates that come in, opened.
-/
import Derived.Test.YtciijaejldfcaaaUpd
import Derived.Test.YtciijaejldfcaaaFrame
namespace Go.Proofs.Ytciijaejldfcaaa.Up
open Go.ChangeShapes Go.WideShapes Go.ChangeAt Go.RowKit Go.Joins Go.Deep

theorem cut_any (v : Value) (L : List Cnt) (w : World) (hv : CntV w v L) :
    Calls Try.prog 20 #[v] w fun e w' => ∃ v', e = .returned v' ∧ CntV w v' (L.take 60) ∧ w = w' := by
  rcases hv with ⟨rfl, rfl⟩ | ⟨b, off, cap, rfl, hm, hb, hat, hlc⟩
  · go_enter Try.func20, Try.ntmps20
    go_wp2
    go_ret
    exact ⟨_, rfl, .inl ⟨rfl, rfl⟩, rfl⟩
  · unfold maxLen at hm
    have HAT := Lib.hid hat
    clear hat
    by_cases h : L.length ≤ 60
    · have hz : ¬ (60 : Int) < L.length := by omega
      go_enter Try.func20, Try.ntmps20
      go_wp2
      go_ret
      exact ⟨_, rfl, by rw [List.take_of_length_le h]; exact .inr ⟨b, off, cap, rfl, hm, hb, HAT.out, hlc⟩, rfl⟩
    · have hz : (60 : Int) < L.length := by omega
      have hl : (L.take 60).length = 60 := by rw [List.length_take]; omega
      have hcap : 60 ≤ cap := by omega
      have HT : AtG encC 3 w b off (L.take 60) := by
        intro i x hi r u hr
        refine HAT.out i x ?_ r u hr
        rw [List.getElem?_take] at hi
        split at hi
        · exact hi
        · cases hi
      have HV : Hid (∀ c, 60 ≤ c → CntV w (.slice (some ⟨b, off, none⟩) 60 c) (L.take 60)) := fun c hc => .inr ⟨b, off, c, by rw [hl], by rw [hl]; decide, hb, HT, by rw [hl]; exact hc⟩
      clear HT
      go_enter Try.func20, Try.ntmps20
      go_wp2
      go_ret
      exact ⟨_, rfl, HV.out _ (by omega), rfl⟩

set_option maxRecDepth 100000 in
/-- Updates that come in, opened. -/
theorem open_updates {H : Type} {enc : TypeId × Value → H} {W : World} {r : Reach} {base : Nat} {v : Value} {d : DataW H} {p : List MemPlace}
    (hv : Value.okWide Try.prog W r base 30 v) (h : DataW.Trod enc Try.prog W 0 (fun _ => true) true 30 v d p) (hw : WOk Try.prog 30 d) :
    ∃ L : List Cnt, CntV W v L ∧ RowsIn W L ∧ ∀ x ∈ L, RowB x.l.2 ∧ (-9223372036854775808 ≤ x.l.1 ∧ x.l.1 ≤ 9223372036854775807) ∧ -9223372036854775808 ≤ x.n ∧ x.n ≤ 9223372036854775807 := by
  obtain ⟨a0, len, cap, rfl⟩ := okWide_slice Try.underlying30 hv
  obtain ⟨fuel, hf⟩ := h
  rcases open_struct_slice Try.underlying30 Try.underlying48 (by kernel_rfl) (by kernel_rfl) hf hw with hcs | ⟨a, len', cap', hcs, hl, hm, hbb, hi⟩
  · simp [Value.cells] at hcs
    obtain ⟨rfl, rfl, rfl⟩ := hcs
    exact ⟨[], .inl ⟨rfl, rfl⟩, by intro x hx; simp at hx, by simp⟩
  · simp [Value.cells] at hcs
    obtain ⟨rfl, rfl, rfl⟩ := hcs
    simp only [Value.okWide, Try.underlying30, Cell.okWide, Cell.ok, World.has] at hv
    obtain ⟨_, _, _, hsp, row, cells, hsh, _⟩ := hv
    obtain ⟨b, off, spot⟩ := a
    simp only at hsp hsh
    subst hsp
    have hb : b < W.heap.size := by
      rcases Nat.lt_or_ge b W.heap.size with h | h
      · exact h
      · simp [World.shape?, Array.getElem?_eq_none h] at hsh
    have key : ∀ i, ∃ x : Cnt, i < len → (RowV W x.v x.l.2 ∧ RowB x.l.2 ∧ (-9223372036854775808 ≤ x.l.1 ∧ x.l.1 ≤ 9223372036854775807) ∧ (-9223372036854775808 ≤ x.n ∧ x.n ≤ 9223372036854775807) ∧ W.cell? ⟨b, off + i * 3, none⟩ = some x.v ∧ W.cell? ⟨b, off + i * 3 + 1, none⟩ = some (.int .i64 x.l.1) ∧ W.cell? ⟨b, off + i * 3 + 2, none⟩ = some (.int .i64 x.n)) := by
      intro i
      by_cases him : i < len
      · obtain ⟨v0, y0, n0, c0, t0, q0⟩ := hi i him 0 _ rfl
        obtain ⟨v1, y1, n1, c1, t1, q1⟩ := hi i him 1 _ rfl
        obtain ⟨v2, y2, n2, c2, t2, q2⟩ := hi i him 2 _ rfl
        obtain ⟨z1, e1, _, w1⟩ := DataW.trod_int Try.underlying2 t1
        obtain ⟨z2, e2, _, w2⟩ := DataW.trod_int Try.underlying2 t2
        simp at e1 e2
        subst e1 e2
        rw [addr_add] at c0 c1 c2
        obtain ⟨l, hr, hB, _⟩ := open_row t0 q0
        exact ⟨⟨v0, (z1, l), z2⟩, fun _ => ⟨hr, hB, bounds_i64 w1, bounds_i64 w2, c0, c1, c2⟩⟩
      · exact ⟨⟨.slice none 0 0, (0, []), 0⟩, fun h => absurd h him⟩
    have hlen' : ((List.range len).map fun i => Classical.choose (key i)).length = len := by simp
    have hmem : ∀ d ∈ (List.range len).map (fun i => Classical.choose (key i)), ∃ i, i < len ∧ Classical.choose (key i) = d := by
      intro d hd
      simp only [List.mem_map, List.mem_range] at hd
      exact hd
    refine ⟨(List.range len).map fun i => Classical.choose (key i), .inr ⟨b, off, cap, by rw [hlen'], by rw [hlen']; omega, hb, ?_, by rw [hlen']; exact hl⟩, ?_, ?_⟩
    · intro k x hk q u hq
      rw [List.getElem?_map] at hk
      have hkl : k < len := by
        rcases Nat.lt_or_ge k len with h | h
        · exact h
        · rw [List.getElem?_eq_none (by simpa using h)] at hk; cases hk
      rw [List.getElem?_range hkl] at hk
      simp only [Option.map_some, Option.some.injEq] at hk
      subst hk
      obtain ⟨_, _, _, _, g0, g1, g2⟩ := (Classical.choose_spec (key k)) hkl
      match q, hq with
      | 0, hq => simp [encC] at hq; subst hq; exact g0
      | 1, hq => simp [encC] at hq; subst hq; exact g1
      | 2, hq => simp [encC] at hq; subst hq; exact g2
      | q + 3, hq => simp [encC] at hq
    · intro x hx
      obtain ⟨i, hi', rfl⟩ := hmem x hx
      exact ((Classical.choose_spec (key i)) hi').1
    · intro x hx
      obtain ⟨i, hi', rfl⟩ := hmem x hx
      obtain ⟨_, g1, g2, g3, _⟩ := (Classical.choose_spec (key i)) hi'
      exact ⟨g1, g2, g3⟩

end Go.Proofs.Ytciijaejldfcaaa.Up
