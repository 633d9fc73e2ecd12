/-
  Slices of elements of k cells each: what they hold, appending to one of the call's own; for any elements.
-/
import Derived.Test.YtippffjhkinfoaaGreatDoorCells
import Derived.OwnWalk
import Derived.Laws.AppendOwn
namespace Go.Proofs.YtippffjhkinfoaaGreatDoor
open Go.RowKit

section
variable {α : Type} (enc : α → List Value) (k : Nat) (hk : ∀ x, (enc x).length = k)
include hk

theorem encs_len (m : List α) : (m.flatMap enc).length = m.length * k := by
  induction m with
  | nil => simp
  | cons d m ih => rw [List.flatMap_cons, List.length_append, ih, hk, List.length_cons, Nat.add_mul]; omega

theorem encs_at : ∀ (m : List α) (i r : Nat) (x : α), m[i]? = some x → r < k → (m.flatMap enc)[i * k + r]? = (enc x)[r]?
  | [], i, r, x, h, _ => by simp at h
  | e :: m, 0, r, x, h, hr => by
    simp only [List.getElem?_cons_zero, Option.some.injEq] at h
    subst h
    rw [List.flatMap_cons, Nat.zero_mul, Nat.zero_add, List.getElem?_append_left (by rw [hk]; exact hr)]
  | e :: m, i + 1, r, x, h, hr => by
    rw [List.getElem?_cons_succ] at h
    have e1 : (i + 1) * k + r - (enc e).length = i * k + r := by rw [hk, Nat.add_mul]; omega
    rw [List.flatMap_cons, List.getElem?_append_right (by rw [hk, Nat.add_mul]; omega), e1]
    exact encs_at m i r x h hr

theorem encs_get (hpos : 0 < k) (m : List α) (j : Nat) (u : Value) (h : (m.flatMap enc)[j]? = some u) : ∃ x, m[j / k]? = some x ∧ (enc x)[j % k]? = some u := by
  have hj : j < (m.flatMap enc).length := (List.getElem?_eq_some_iff.mp h).1
  rw [encs_len enc k hk] at hj
  have hq : j / k < m.length := Nat.div_lt_of_lt_mul (by rw [Nat.mul_comm]; exact hj)
  refine ⟨m[j / k], List.getElem?_eq_getElem hq, ?_⟩
  have := encs_at enc k hk m (j / k) (j % k) _ (List.getElem?_eq_getElem hq) (Nat.mod_lt _ hpos)
  rw [Nat.mul_comm, Nat.div_add_mod] at this
  rw [← this]; exact h
end

/-- The cells from a place on hold the elements. -/
def AtG {α : Type} (enc : α → List Value) (k : Nat) (w : World) (b off : Nat) (L : List α) : Prop :=
  ∀ i x, L[i]? = some x → ∀ r u, (enc x)[r]? = some u → w.cell? ⟨b, off + i * k + r, none⟩ = some u

/-- A slice value that holds the elements. -/
def ValG {α : Type} (enc : α → List Value) (k : Nat) (w : World) (v : Value) (L : List α) : Prop :=
  (v = .slice none 0 0 ∧ L = []) ∨ ∃ b off cap, v = .slice (some ⟨b, off, none⟩) L.length cap ∧ L.length ≤ maxLen ∧ b < w.heap.size ∧ AtG enc k w b off L ∧ L.length ≤ cap

section
variable {α : Type} {enc : α → List Value} {k : Nat}
theorem AtG.block {w w' : World} {b off : Nat} {L : List α} (h : AtG enc k w b off L) (hb : w'.heap[b]? = w.heap[b]?) : AtG enc k w' b off L :=
  fun i x hi r u hr => (World.cell?_of_block (w := w) (a := ⟨b, off + i * k + r, none⟩) hb).trans (h i x hi r u hr)
theorem ValG.below {w w' : World} {v : Value} {L : List α} (h : ValG enc k w v L) (hb : Below w.heap.size w w') : ValG enc k w' v L := by
  rcases h with h | ⟨b, off, cap, e, hm, hlt, hr⟩
  · exact .inl h
  · exact .inr ⟨b, off, cap, e, hm, Nat.lt_of_lt_of_le hlt hb.size, hr.1.block (hb.block b hlt), hr.2⟩

/-- A slice of the call's own. -/
def OwnG (enc : α → List Value) (k : Nat) (e : TypeId) (w : World) (base : Nat) (v : Value) (L : List α) : Prop := w.ownsRow base e k v L.length (L.flatMap enc)

theorem OwnG.lt {e : TypeId} {w : World} {base : Nat} {v : Value} {l : List α} (h : OwnG enc k e w base v l) : ∀ b, v.ownBlock = some b → base ≤ b ∧ b < w.heap.size := World.ownsRow.lt h
theorem OwnG.alloc {e : TypeId} {w : World} {base : Nat} {v : Value} {l : List α} (h : OwnG enc k e w base v l) (o : Obj) : OwnG enc k e (w.alloc o) base v l := World.ownsRow.alloc h o
theorem OwnG.kept {e : TypeId} {w w' : World} {base : Nat} {v : Value} {l : List α} {row : Option Nat} (h : OwnG enc k e w base v l) (hg : w.grownBy w' row) (hne : v.ownBlock = none ∨ v.ownBlock ≠ row) : OwnG enc k e w' base v l := World.ownsRow.kept h hg hne
theorem OwnG.below {e : TypeId} {w w' : World} {base : Nat} {v : Value} {l : List α} (h : OwnG enc k e w base v l) (hb : Below w.heap.size w w') : OwnG enc k e w' base v l := by
  refine World.ownsRow.kept (row := none) h ⟨hb.os, hb.tape, hb.output, hb.size, fun j hj _ => hb.block j hj⟩ ?_
  cases hv : v.ownBlock
  · exact .inl rfl
  · exact .inr (by simp)
theorem OwnG.more {e : TypeId} {w : World} {base base' : Nat} {v : Value} {l : List α} (h : OwnG enc k e w base v l) (hb : base' ≤ base) : OwnG enc k e w base' v l := by
  refine ⟨h.1, ?_⟩
  rcases h.2 with h2 | ⟨g, cap, cur, e1, hg, r⟩
  · exact .inl h2
  · exact .inr ⟨g, cap, cur, e1, by omega, r⟩
theorem OwnG.grown {e : TypeId} {w w' : World} {base : Nat} {v : Value} {l : List α} (h : OwnG enc k e w base v l) (hbase : base ≤ w.heap.size) (hg : w.grownBy w' v.ownBlock) : Below base w w' :=
  (Below.refl base w).grown hg hbase (fun j hj => (h.lt j hj).1)
theorem OwnG.nil (e : TypeId) (w : World) (base : Nat) : OwnG enc k e w base (.slice none 0 0) [] := World.ownsRow_nil w base e k
theorem OwnG.lit0 (e : TypeId) (w : World) (base : Nat) (hb : base ≤ w.heap.size) : OwnG enc k e (w.alloc (.cells #[] e)) base (.slice (some ⟨w.heap.size, 0, none⟩) 0 0) [] := by
  have := World.ownsRow_lit (e := e) (size := k) (base := base) w #[] 0 hb (by simp) (by simp)
  simpa [OwnG] using this

/-- It reads so. -/
theorem OwnG.val {e : TypeId} (hk : ∀ x, (enc x).length = k) {w : World} {base : Nat} {v : Value} {l : List α} (h : OwnG enc k e w base v l) : ValG enc k w v l := by
  rcases h.2 with ⟨rfl, h0⟩ | ⟨g, cap, cur, rfl, hbg, hh, hn, hc, _⟩
  · exact .inl ⟨rfl, List.eq_nil_of_length_eq_zero h0⟩
  · have hcells := World.ownsRow.cells h (g := g) rfl
    refine .inr ⟨g, 0, cap, rfl, by omega, (Array.getElem?_eq_some_iff.mp hh).1, fun i x hi r u hr => ?_, hn⟩
    have ea : ∀ q : Nat, (⟨g, 0, none⟩ : Addr).add q = ⟨g, 0 + q, none⟩ := by intro q; unfold Addr.add; split <;> simp_all
    have hrk : r < k := by have := (List.getElem?_eq_some_iff.mp hr).1; rw [hk] at this; exact this
    have c0 := hcells (i * k + r) u (by rw [encs_at enc k hk l i r x hi hrk]; exact hr)
    rw [ea, ← Nat.add_assoc] at c0
    exact c0

/-- Its shape. -/
theorem OwnG.shape {e : TypeId} {w : World} {base : Nat} {v : Value} {l : List α} (h : OwnG enc k e w base v l) : (v = .slice none 0 0 ∧ l = []) ∨ ∃ g cap, v = .slice (some ⟨g, 0, none⟩) l.length cap ∧ base ≤ g ∧ g < w.heap.size ∧ l.length ≤ cap ∧ cap ≤ maxLen ∧ (∀ j, w.frozen? ⟨g, j, none⟩ = false) ∧ ∃ cur, w.heap[g]? = some (.cells cur e (0, 0)) := by
  rcases h.2 with ⟨rfl, h0⟩ | ⟨g, cap, cur, rfl, hbg, hh, hn, hc, _⟩
  · exact .inl ⟨rfl, List.eq_nil_of_length_eq_zero h0⟩
  · exact .inr ⟨g, cap, rfl, hbg, (Array.getElem?_eq_some_iff.mp hh).1, hn, hc, fun j => World.ownsRow.frozenAt h j, cur, hh⟩

theorem run_append_of_nil' {P : Program} (w : World) (base : Nat) (t ty e : TypeId) (i : TypeInfo) (size : Nat) (ht : P.underlying t = some (.slice e)) (hi : P.info? e = some i)
    (v : Value) (n : Nat) (xs : List Value) (hown : w.ownsRow base e size v n xs) (c : Nat) : (Builtin.append_ #[t, t] ty #[v, .slice none 0 c]).run P w = .ok v w := by
  rcases hown.2 with ⟨rfl, rfl⟩ | ⟨g, cap, cur, rfl, _, _, hnc, _⟩
  · simp [Builtin.append_, run_underlying ht, sizeOf, typeInfo, hi, Builtin.lenOf, Builtin.firstCells]
  · simp [Builtin.append_, run_underlying ht, sizeOf, typeInfo, hi, Builtin.lenOf, Builtin.firstCells, hnc, storeCells]

theorem run_append_g {P : Program} (hk : ∀ x, (enc x).length = k) (hpos : 0 < k) (t e : TypeId) (i : TypeInfo) (z : Value) (bytes : Nat) (ht : P.underlying t = some (.slice e)) (hi : P.info? e = some i) (hz : i.zero = some z) (hsize : i.size = k) (hby : i.bytes = bytes) (hzs : z.cells.size = k)
    (w : World) (ty : TypeId) (base : Nat) (v vx : Value) (l m : List α) (hown : OwnG enc k e w base v l) (hr : ValG enc k w vx m) (h1 : ∀ x ∈ m, ∀ u ∈ enc x, u.oneCell' = true) (hm : l.length + m.length ≤ maxLen) (hlen : (l.length + m.length) * bytes ≤ 140737488355328) (hbase : base ≤ w.heap.size) :
    ∃ v' w', (Builtin.append_ #[t, t] ty #[v, vx]).run P w = .ok v' w' ∧ OwnG enc k e w' base v' (l ++ m) ∧ w.grownBy w' v.ownBlock := by
  rcases hr with ⟨rfl, rfl⟩ | ⟨b, off, cap, rfl, hm', hb, hat, -⟩
  · exact ⟨v, w, run_append_of_nil' w base t ty e i k ht hi v l.length _ hown 0, by simpa using hown, ⟨rfl, rfl, rfl, Nat.le_refl _, fun _ _ _ => rfl⟩⟩
  · have ea : ∀ q : Nat, (⟨b, off, none⟩ : Addr).add q = ⟨b, off + q, none⟩ := by intro q; unfold Addr.add; split <;> simp_all
    obtain ⟨v', w', h1', h2, h3, _⟩ := run_append_own (P := P) w base t ty e i _ k bytes ht hi hz hsize hby hzs hpos v l.length _ hown ⟨b, off, none⟩ m.length cap (m.flatMap enc) (encs_len enc k hk m)
      (by
        intro j u hj
        obtain ⟨x, hx, hu⟩ := encs_get enc k hk hpos m j u hj
        have := hat _ x hx _ u hu
        rw [Nat.add_assoc, Nat.mul_comm, Nat.div_add_mod] at this
        rw [ea]; exact this)
      (by intro u hu; simp only [List.mem_flatMap] at hu; obtain ⟨x, hx, hd⟩ := hu; exact h1 x hx u hd)
      hm hlen hbase
    refine ⟨v', w', h1', ?_, h3⟩
    unfold OwnG
    rw [List.length_append, List.flatMap_append]
    exact h2

theorem wpList_append_g {P : Program} (hk : ∀ x, (enc x).length = k) (hpos : 0 < k) (t e : TypeId) (i : TypeInfo) (z : Value) (bytes : Nat) (ht : P.underlying t = some (.slice e)) (hi : P.info? e = some i) (hz : i.zero = some z) (hsize : i.size = k) (hby : i.bytes = bytes) (hzs : z.cells.size = k)
    {ops : Array Oper} {rest : List Oper} {o : Oper} {a : Act} {Q : Exit → Act → World → Prop} (w : World) (hgd : o.guard = none) (s x : Operand)
    (ho : o.op = .call { callee := .builtin .append, args := #[s, x], argTypes := #[t, t] })
    (base : Nat) (v vx : Value) (l m : List α) (hs : a.eval s = v) (hx : a.eval x = vx) (hown : OwnG enc k e w base v l) (hr : ValG enc k w vx m) (h1 : ∀ x ∈ m, ∀ u ∈ enc x, u.oneCell' = true)
    (hm : l.length + m.length ≤ maxLen) (hlen : (l.length + m.length) * bytes ≤ 140737488355328) (hbase : base ≤ w.heap.size)
    (h : ∀ v' w', OwnG enc k e w' base v' (l ++ m) → w.grownBy w' v.ownBlock → wpList P ops Q rest (a.put o.dst v') w') : wpList P ops Q (o :: rest) a w :=
  wpList_plain hgd fun _ hK => by
    obtain ⟨v', w', hrun, h2, h3⟩ := run_append_g hk hpos t e i z bytes ht hi hz hsize hby hzs w o.type base v vx l m hown hr h1 hm hlen hbase
    unfold Oper.wp execOp
    simp only [ho, resolve, invoke, builtin, Sem.run_bind, Sem.run_pure, Result.andThen_ok, List.map_toArray, List.map_cons, List.map_nil, hs, hx, hrun]
    exact hK _ _ (h v' w' h2 h3)

end

end Go.Proofs.YtippffjhkinfoaaGreatDoor
