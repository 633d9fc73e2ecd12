/-
  A slice of values of the call's own: appending rows to it; and it reads as a row.
-/
import Derived.Test.YtoikbdgbhgokaaaDoorFrame
namespace Go.Proofs.YtoikbdgbhgokaaaDoor
open Go.RowKit

theorem Tryd.info37 : (Tryd.prog.info? 37).map (fun i => (i.zero, i.size, i.bytes)) = some (some (.agg #[.int .i64 0, .int .i64 0, .string ⟨#[]⟩]), 3, 32) := by kernel_rfl

def cellsD (d : Dat) : List Value := [.int .i64 d.k, .int .i64 d.i, .string d.s]

theorem cells_get : ∀ (m : List Dat) (j : Nat) (u : Value), (m.flatMap cellsD)[j]? = some u → ∃ d, m[j / 3]? = some d ∧ (cellsD d)[j % 3]? = some u
  | [], j, u, h => by simp at h
  | d :: m, j, u, h => by
    rw [List.flatMap_cons] at h
    by_cases hj : j < 3
    · rw [List.getElem?_append_left (by simp [cellsD]; omega)] at h
      refine ⟨d, ?_, ?_⟩
      · rw [Nat.div_eq_of_lt hj]; rfl
      · rw [Nat.mod_eq_of_lt hj]; exact h
    · rw [List.getElem?_append_right (by simp [cellsD]; omega)] at h
      obtain ⟨e, h1, h2⟩ := cells_get m _ u h
      have h3 : j - (cellsD d).length = j - 3 := by simp [cellsD]
      rw [h3] at h1 h2
      refine ⟨e, ?_, ?_⟩
      · rw [show j / 3 = (j - 3) / 3 + 1 by omega, List.getElem?_cons_succ]; exact h1
      · rw [show j % 3 = (j - 3) % 3 by omega]; exact h2

theorem cells_at : ∀ (m : List Dat) (k r : Nat) (d : Dat), m[k]? = some d → r < 3 → (m.flatMap cellsD)[k * 3 + r]? = (cellsD d)[r]?
  | [], k, r, d, h, _ => by simp at h
  | e :: m, 0, r, d, h, hr => by
    simp only [List.getElem?_cons_zero, Option.some.injEq] at h
    subst h
    rw [List.flatMap_cons, Nat.zero_mul, Nat.zero_add, List.getElem?_append_left (by simp [cellsD]; omega)]
  | e :: m, k + 1, r, d, h, hr => by
    rw [List.getElem?_cons_succ] at h
    rw [List.flatMap_cons, List.getElem?_append_right (by simp [cellsD]; omega), show (k + 1) * 3 + r - (cellsD e).length = k * 3 + r by simp [cellsD]; omega]
    exact cells_at m k r d h hr

theorem cells_len (m : List Dat) : (m.flatMap cellsD).length = m.length * 3 := by
  induction m with
  | nil => rfl
  | cons d m ih => rw [List.flatMap_cons, List.length_append, ih]; simp [cellsD]; omega

/-- A []Datum of the call's own that holds the row l. -/
def OwnD (w : World) (base : Nat) (v : Value) (l : List Dat) : Prop := w.ownsRow base 37 3 v l.length (l.flatMap cellsD)

theorem OwnD.lt {w : World} {base : Nat} {v : Value} {l : List Dat} (h : OwnD w base v l) : ∀ k, v.ownBlock = some k → base ≤ k ∧ k < w.heap.size := World.ownsRow.lt h
theorem OwnD.alloc {w : World} {base : Nat} {v : Value} {l : List Dat} (h : OwnD w base v l) (o : Obj) : OwnD (w.alloc o) base v l := World.ownsRow.alloc h o
theorem OwnD.below {w w' : World} {base : Nat} {v : Value} {l : List Dat} (h : OwnD w base v l) (hb : Below w.heap.size w w') : OwnD w' base v l := by
  refine World.ownsRow.kept (row := none) h ⟨hb.os, hb.tape, hb.output, hb.size, fun k hk _ => hb.block k hk⟩ ?_
  cases hv : v.ownBlock
  · exact .inl rfl
  · exact .inr (by simp)
theorem OwnD.more {w : World} {base base' : Nat} {v : Value} {l : List Dat} (h : OwnD w base v l) (hb : base' ≤ base) : OwnD w base' v l := by
  refine ⟨h.1, ?_⟩
  rcases h.2 with h2 | ⟨g, cap, cur, e, hg, r⟩
  · exact .inl h2
  · exact .inr ⟨g, cap, cur, e, by omega, r⟩
theorem ownD_below {w w' : World} {base : Nat} {v : Value} {l : List Dat} (h : OwnD w base v l) (hbase : base ≤ w.heap.size) (hg : w.grownBy w' v.ownBlock) : Below base w w' :=
  (Below.refl base w).grown hg hbase (fun k hk => (h.lt k hk).1)
theorem OwnD.nil (w : World) (base : Nat) : OwnD w base (.slice none 0 0) [] := World.ownsRow_nil w base 37 3
theorem OwnD.lit0 (w : World) (base : Nat) (hb : base ≤ w.heap.size) : OwnD (w.alloc (.cells #[] 37)) base (.slice (some ⟨w.heap.size, 0, none⟩) 0 0) [] := by
  have := World.ownsRow_lit (e := 37) (size := 3) (base := base) w #[] 0 hb (by simp) (by simp)
  simpa [OwnD] using this

/-- It reads as a row. -/
theorem OwnD.row {w : World} {base : Nat} {v : Value} {l : List Dat} (h : OwnD w base v l) : RowV w v l := by
  rcases h.2 with ⟨rfl, h0⟩ | ⟨g, cap, cur, rfl, hbg, hh, hn, hc, _⟩
  · exact .inl ⟨rfl, List.eq_nil_of_length_eq_zero h0⟩
  · have hcells := h.cells (g := g) rfl
    refine .inr ⟨g, 0, cap, rfl, by omega, (Array.getElem?_eq_some_iff.mp hh).1, fun k d hk => ?_⟩
    have ea : ∀ q : Nat, (⟨g, 0, none⟩ : Addr).add q = ⟨g, 0 + q, none⟩ := by intro q; unfold Addr.add; split <;> simp_all
    have c0 := hcells (k * 3 + 0) (.int .i64 d.k) (by rw [cells_at l k 0 d hk (by omega)]; rfl)
    have c1 := hcells (k * 3 + 1) (.int .i64 d.i) (by rw [cells_at l k 1 d hk (by omega)]; rfl)
    have c2 := hcells (k * 3 + 2) (.string d.s) (by rw [cells_at l k 2 d hk (by omega)]; rfl)
    rw [ea] at c0 c1 c2
    exact ⟨c0, c1, c2⟩

theorem run_append_of_nil {P : Program} (w : World) (base : Nat) (t ty e : TypeId) (i : TypeInfo) (size : Nat) (ht : P.underlying t = some (.slice e)) (hi : P.info? e = some i)
    (v : Value) (n : Nat) (xs : List Value) (hown : w.ownsRow base e size v n xs) (c : Nat) : (Builtin.append_ #[t, t] ty #[v, .slice none 0 c]).run P w = .ok v w := by
  rcases hown.2 with ⟨rfl, rfl⟩ | ⟨g, cap, cur, rfl, _, _, hnc, _⟩
  · simp [Builtin.append_, run_underlying ht, sizeOf, typeInfo, hi, Builtin.lenOf, Builtin.firstCells]
  · simp [Builtin.append_, run_underlying ht, sizeOf, typeInfo, hi, Builtin.lenOf, Builtin.firstCells, hnc, storeCells]

theorem run_append_dats (w : World) (ty : TypeId) (base : Nat) (v vx : Value) (l m : List Dat) (hown : OwnD w base v l) (hr : RowV w vx m) (hlen : (l.length + m.length) * 32 ≤ 140737488355328) (hbase : base ≤ w.heap.size) :
    ∃ v' w', (Builtin.append_ #[23, 23] ty #[v, vx]).run Tryd.prog w = .ok v' w' ∧ OwnD w' base v' (l ++ m) ∧ w.grownBy w' v.ownBlock := by
  obtain ⟨i0, hi, hz0, hz1, hz2⟩ := info_parts Tryd.info37
  rcases hr with ⟨rfl, rfl⟩ | ⟨b, off, cap, rfl, hm, hb, hat⟩
  · exact ⟨v, w, run_append_of_nil w base 23 ty 37 i0 3 Tryd.underlying23 hi v l.length _ hown 0, by simpa using hown, ⟨rfl, rfl, rfl, Nat.le_refl _, fun _ _ _ => rfl⟩⟩
  · have ea : ∀ q : Nat, (⟨b, off, none⟩ : Addr).add q = ⟨b, off + q, none⟩ := by intro q; unfold Addr.add; split <;> simp_all
    obtain ⟨v', w', h1, h2, h3, _⟩ := run_append_own (P := Tryd.prog) w base 23 ty 37 i0 _ 3 32 Tryd.underlying23 hi hz0 hz1 hz2 rfl (by decide) v l.length _ hown ⟨b, off, none⟩ m.length cap (m.flatMap cellsD) (cells_len m)
      (by
        intro j u hj
        obtain ⟨d, hd, hu⟩ := cells_get m j u hj
        obtain ⟨c0, c1, c2⟩ := hat _ d hd
        rw [ea]
        have hj3 : j = j / 3 * 3 + j % 3 := by omega
        have hlt : j % 3 < 3 := Nat.mod_lt _ (by decide)
        generalize j % 3 = r at hu hj3 hlt
        generalize j / 3 = k at hj3 c0 c1 c2
        subst hj3
        match r, hlt with
        | 0, _ => simp [cellsD] at hu; subst hu; exact c0
        | 1, _ => simp [cellsD] at hu; subst hu; exact c1
        | 2, _ => simp [cellsD] at hu; subst hu; exact c2)
      (by intro u hu; simp only [List.mem_flatMap] at hu; obtain ⟨d, _, hd⟩ := hu; simp [cellsD] at hd; rcases hd with rfl | rfl | rfl <;> rfl)
      (by unfold maxLen; omega) hlen hbase
    refine ⟨v', w', h1, ?_, h3⟩
    unfold OwnD
    rw [List.length_append, List.flatMap_append]
    exact h2

theorem wpList_append_dats {ops : Array Oper} {rest : List Oper} {o : Oper} {a : Act} {Q : Exit → Act → World → Prop} (w : World) (hgd : o.guard = none) (s x : Operand)
    (ho : o.op = .call { callee := .builtin .append, args := #[s, x], argTypes := #[23, 23] })
    (base : Nat) (v vx : Value) (l m : List Dat) (hs : a.eval s = v) (hx : a.eval x = vx) (hown : OwnD w base v l) (hr : RowV w vx m)
    (hlen : (l.length + m.length) * 32 ≤ 140737488355328) (hbase : base ≤ w.heap.size)
    (h : ∀ v' w', OwnD w' base v' (l ++ m) → w.grownBy w' v.ownBlock → wpList Tryd.prog ops Q rest (a.put o.dst v') w') : wpList Tryd.prog ops Q (o :: rest) a w :=
  wpList_plain hgd fun _ hK => by
    obtain ⟨v', w', hrun, h2, h3⟩ := run_append_dats w o.type base v vx l m hown hr hlen hbase
    unfold Oper.wp execOp
    simp only [ho, resolve, invoke, builtin, Sem.run_bind, Sem.run_pure, Result.andThen_ok, List.map_toArray, List.map_cons, List.map_nil, hs, hx, hrun]
    exact hK _ _ (h v' w' h2 h3)

end Go.Proofs.YtoikbdgbhgokaaaDoor
