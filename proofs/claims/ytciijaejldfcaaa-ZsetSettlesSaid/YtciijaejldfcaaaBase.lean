/-
  Small facts on worlds: what new blocks hold, what stays; what calls leave, as definitions.
-/
import Derived.Test.YtciijaejldfcaaaRows
import Derived.Test.YtciijaejldfcaaaZPure
import Derived.WalkKit
import Derived.WalkSpells
import Derived.WalkLawsBesides
import Derived.Lib.Hide
import Derived.Below
import Derived.Sort.Grow
namespace Go.Proofs.Ytciijaejldfcaaa
open Go.RowKit

/-- Below block number B nothing has changed, and draws have only been added. -/
structure Gr (B : Nat) (w w' : World) : Prop extends Below B w w' where
  draws : w.drawn ≤ w'.drawn

theorem Gr.refl (B : Nat) (w : World) : Gr B w w := ⟨Below.refl B w, Nat.le_refl _⟩
theorem Gr.trans {B : Nat} {a b c : World} (h : Gr B a b) (k : Gr B b c) : Gr B a c := ⟨Below.trans h.toBelow k.toBelow, Nat.le_trans h.draws k.draws⟩
theorem Gr.mono {B B' : Nat} {w w' : World} (h : Gr B w w') (hB : B' ≤ B) : Gr B' w w' := ⟨h.toBelow.mono hB, h.draws⟩
theorem Gr.drew {B : Nat} {a w : World} (h : Gr B a w) : Gr B a w.drew := ⟨h.toBelow.drew, Nat.le_succ_of_le h.draws⟩
theorem Gr.alloc {B : Nat} {a w : World} (h : Gr B a w) (hB : B ≤ w.heap.size) (o : Obj) : Gr B a (w.alloc o) := ⟨h.toBelow.alloc hB o, h.draws⟩
theorem Gr.setCell {B : Nat} {a w : World} (h : Gr B a w) {p : Addr} (hp : B ≤ p.block) (u : Value) : Gr B a (w.setCell p u) := ⟨h.toBelow.setCell hp u, h.draws⟩

/-- A world that has only grown, as the sort's contracts say it. -/
theorem Gr.grow {w w' : World} (h : Gr w.heap.size w w') : ∃ q os', w' = Go.Sort.grow (w.drewN q) os' := by
  refine ⟨w'.drawn - w.drawn, w'.heap.extract w.heap.size w'.heap.size, ?_⟩
  have hd := h.draws
  have hs := h.toBelow.size
  have hh : w'.heap = w.heap ++ w'.heap.extract w.heap.size w'.heap.size := by
    apply Array.ext_getElem?
    intro k
    rw [Array.getElem?_append]
    by_cases hk : k < w.heap.size
    · rw [if_pos hk]; exact h.toBelow.block k hk
    · rw [if_neg hk, Array.getElem?_extract]
      by_cases hk2 : k < w'.heap.size
      · rw [if_pos (by omega)]; congr 1; omega
      · rw [if_neg (by omega), Array.getElem?_eq_none (by omega)]
  obtain ⟨a, b, c, d, e⟩ := w'
  have h1 := h.toBelow.os
  have h2 := h.toBelow.tape
  have h3 := h.toBelow.output
  simp only at h1 h2 h3 hh hd
  subst h1 h2 h3
  unfold Go.Sort.grow World.drewN
  congr 1
  simp; omega

/-- A call answers n and makes memory of its own alone. -/
def IntPost (n : Int) (w : World) (e : Ending) (w' : World) : Prop := e = .returned (.int .i64 n) ∧ Gr w.heap.size w w'
/-- A call answers b and makes memory of its own alone. -/
def BoolPost (b : Bool) (w : World) (e : Ending) (w' : World) : Prop := e = .returned (.bool b) ∧ Gr w.heap.size w w'

/-- The cells from a place on hold the values of a row. -/
def RowAt (w : World) (b off : Nat) (l : List Dat) : Prop :=
  ∀ k d, l[k]? = some d → w.cell? ⟨b, off + k * 3, none⟩ = some (.int .i64 d.k) ∧ w.cell? ⟨b, off + k * 3 + 1, none⟩ = some (.int .i64 d.i) ∧ w.cell? ⟨b, off + k * 3 + 2, none⟩ = some (.string d.s)

/-- A slice value that holds a row. -/
def RowV (w : World) (v : Value) (l : List Dat) : Prop :=
  (∃ A c, v = .slice A 0 c ∧ l = []) ∨ ∃ b off cap, v = .slice (some ⟨b, off, none⟩) l.length cap ∧ l.length ≤ maxLen ∧ b < w.heap.size ∧ RowAt w b off l

theorem RowAt.block {w w' : World} {b off : Nat} {l : List Dat} (h : RowAt w b off l) (hb : w'.heap[b]? = w.heap[b]?) : RowAt w' b off l := by
  intro k d hk
  obtain ⟨h0, h1, h2⟩ := h k d hk
  exact ⟨(World.cell?_of_block (w := w) (a := ⟨b, off + k * 3, none⟩) hb).trans h0, (World.cell?_of_block (w := w) (a := ⟨b, off + k * 3 + 1, none⟩) hb).trans h1, (World.cell?_of_block (w := w) (a := ⟨b, off + k * 3 + 2, none⟩) hb).trans h2⟩
theorem RowV.below {w w' : World} {v : Value} {l : List Dat} (h : RowV w v l) (hb : Below w.heap.size w w') : RowV w' v l := by
  rcases h with h | ⟨b, off, cap, e, hm, hlt, hr⟩
  · exact .inl h
  · exact .inr ⟨b, off, cap, e, hm, Nat.lt_of_lt_of_le hlt hb.size, hr.block (hb.block b hlt)⟩

/-- A block of a world. -/
def Blk (w : World) (b : Nat) (cs : Array Value) (t : TypeId) : Prop := w.heap[b]? = some (.cells cs t (0, 0))

theorem Blk.new (w : World) (cs : Array Value) (t : TypeId) : Blk (w.alloc (.cells cs t)) w.heap.size cs t := heap_alloc_new _ _
theorem Blk.lt {w : World} {b : Nat} {cs : Array Value} {t : TypeId} (h : Blk w b cs t) : b < w.heap.size := (Array.getElem?_eq_some_iff.mp h).1
theorem Blk.alloc {w : World} {b : Nat} {cs : Array Value} {t : TypeId} (h : Blk w b cs t) (o : Obj) : Blk (w.alloc o) b cs t := by
  have hl := h.lt
  unfold Blk at *; rw [heap_alloc_old _ _ hl]; exact h
theorem Blk.drew {w : World} {b : Nat} {cs : Array Value} {t : TypeId} (h : Blk w b cs t) : Blk w.drew b cs t := h
theorem Blk.below {w w' : World} {b : Nat} {cs : Array Value} {t : TypeId} (h : Blk w b cs t) (hb : Below w.heap.size w w') : Blk w' b cs t := by
  have hl := h.lt
  unfold Blk at *; rw [hb.block b hl]; exact h
theorem Blk.cell {w : World} {b : Nat} {cs : Array Value} {t : TypeId} (h : Blk w b cs t) (j : Nat) : w.cell? ⟨b, j, none⟩ = cs[j]? := cell_of_row w b j cs t (0, 0) h
theorem Blk.frozen {w : World} {b : Nat} {cs : Array Value} {t : TypeId} (h : Blk w b cs t) (j : Nat) : w.frozen? ⟨b, j, none⟩ = false := by
  unfold Blk at h
  simp [World.frozen?, h]

theorem Blk.at {w : World} {b : Nat} {cs : Array Value} {t : TypeId} (h : b = w.heap.size) : Blk (w.alloc (.cells cs t)) b cs t := h ▸ Blk.new w cs t
theorem Blk.set {w : World} {b : Nat} {cs : Array Value} {t : TypeId} (h : Blk w b cs t) (i : Nat) (u : Value) : Blk (w.setCell ⟨b, i, none⟩ u) b (cs.setIfInBounds i u) t := by
  unfold Blk at h ⊢
  simp [World.setCell, Array.getElem?_modify, h]
theorem Blk.setOther {w : World} {b b' : Nat} {cs : Array Value} {t : TypeId} (h : Blk w b cs t) (hne : b' ≠ b) (i : Nat) (u : Value) : Blk (w.setCell ⟨b', i, none⟩ u) b cs t := by
  unfold Blk at h ⊢
  simp [World.setCell, Array.getElem?_modify, hne, h]

theorem Blk.res2 {w : World} {b : Nat} {u v : Value} {t : TypeId} (h : Blk w b #[u, v] t) (x y : Value) :
    (w.setCell ⟨b, 0, none⟩ x).cell? ⟨b, 0, none⟩ = some x ∧ ((w.setCell ⟨b, 0, none⟩ x).setCell ⟨b, 1, none⟩ y).cell? ⟨b, 1, none⟩ = some y :=
  ⟨(h.set 0 x).cell 0, ((h.set 0 x).set 1 y).cell 1⟩

theorem cell_set {w : World} {b h o p : Nat} {u x : Value} (hne : b ≠ h) (hc : w.cell? ⟨b, o, none⟩ = some x) : (w.setCell ⟨h, p, none⟩ u).cell? ⟨b, o, none⟩ = some x :=
  (World.cell?_of_block (w := w) (a := ⟨b, o, none⟩) (Below.heap_setCell w ⟨h, p, none⟩ u b hne)).trans hc

end Go.Proofs.Ytciijaejldfcaaa
