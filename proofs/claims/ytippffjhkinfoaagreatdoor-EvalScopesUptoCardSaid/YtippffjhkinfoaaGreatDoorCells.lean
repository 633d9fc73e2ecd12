/-
  Small facts on worlds: what new blocks hold, and what stays.
-/
import Derived.Test.YtippffjhkinfoaaGreatDoorSmall
namespace Go.Proofs.YtippffjhkinfoaaGreatDoor
open Go.RowKit

/-- A block of a world. -/
def Blk (w : World) (b : Nat) (cs : Array Value) (t : TypeId) : Prop := w.heap[b]? = some (.cells cs t (0, 0))

theorem Blk.new (w : World) (cs : Array Value) (t : TypeId) : Blk (w.alloc (.cells cs t)) w.heap.size cs t := heap_alloc_new _ _
theorem Blk.lt {w : World} {b : Nat} {cs : Array Value} {t : TypeId} (h : Blk w b cs t) : b < w.heap.size := (Array.getElem?_eq_some_iff.mp h).1
theorem Blk.alloc {w : World} {b : Nat} {cs : Array Value} {t : TypeId} (h : Blk w b cs t) (o : Obj) : Blk (w.alloc o) b cs t := by
  have hl := h.lt
  unfold Blk at *; rw [heap_alloc_old _ _ hl]; exact h
theorem Blk.drew {w : World} {b : Nat} {cs : Array Value} {t : TypeId} (h : Blk w b cs t) : Blk w.drew b cs t := h
theorem Blk.below {w w' : World} {b : Nat} {cs : Array Value} {t : TypeId} (h : Blk w b cs t) (hb : Below w.heap.size w w') : Blk w' b cs t := by
  have hl := h.lt
  unfold Blk at *; rw [hb.block b hl]; exact h
theorem Blk.cell {w : World} {b : Nat} {cs : Array Value} {t : TypeId} (h : Blk w b cs t) (j : Nat) : w.cell? ⟨b, j, none⟩ = cs[j]? := cell_of_row w b j cs t (0, 0) h
theorem Blk.frozen {w : World} {b : Nat} {cs : Array Value} {t : TypeId} (h : Blk w b cs t) (j : Nat) : w.frozen? ⟨b, j, none⟩ = false := by
  unfold Blk at h
  simp [World.frozen?, h]

theorem cell_set {w : World} {b h o p : Nat} {u x : Value} (hne : b ≠ h) (hc : w.cell? ⟨b, o, none⟩ = some x) : (w.setCell ⟨h, p, none⟩ u).cell? ⟨b, o, none⟩ = some x :=
  (World.cell?_of_block (w := w) (a := ⟨b, o, none⟩) (Below.heap_setCell w ⟨h, p, none⟩ u b hne)).trans hc
theorem cell_set3 {w : World} {b h o p q r : Nat} {u v y x : Value} (hne : b ≠ h) (hc : w.cell? ⟨b, o, none⟩ = some x) :
    (((w.setCell ⟨h, p, none⟩ u).setCell ⟨h, q, none⟩ v).setCell ⟨h, r, none⟩ y).cell? ⟨b, o, none⟩ = some x :=
  cell_set hne (cell_set hne (cell_set hne hc))

end Go.Proofs.YtippffjhkinfoaaGreatDoor
