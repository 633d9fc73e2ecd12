/-
  Blocks that are written to.
-/
import Derived.Test.YtippffjhkinfoaaGreatDoorGen
namespace Go.Proofs.YtippffjhkinfoaaGreatDoor
open Go.RowKit

theorem Blk.atB {w : World} {b : Nat} {cs : Array Value} {t : TypeId} (h : b = w.heap.size) : Blk (w.alloc (.cells cs t)) b cs t := h ▸ Blk.new w cs t
theorem Blk.set {w : World} {b : Nat} {cs : Array Value} {t : TypeId} (h : Blk w b cs t) (i : Nat) (u : Value) : Blk (w.setCell ⟨b, i, none⟩ u) b (cs.setIfInBounds i u) t := by
  unfold Blk at h ⊢
  simp [World.setCell, Array.getElem?_modify, h]
theorem Blk.setOther {w : World} {b b' : Nat} {cs : Array Value} {t : TypeId} (h : Blk w b cs t) (hne : b' ≠ b) (i : Nat) (u : Value) : Blk (w.setCell ⟨b', i, none⟩ u) b cs t := by
  unfold Blk at h ⊢
  simp [World.setCell, Array.getElem?_modify, hne, h]
theorem Blk.res2 {w : World} {b : Nat} {u v : Value} {t : TypeId} (h : Blk w b #[u, v] t) (x y : Value) :
    (w.setCell ⟨b, 0, none⟩ x).cell? ⟨b, 0, none⟩ = some x ∧ ((w.setCell ⟨b, 0, none⟩ x).setCell ⟨b, 1, none⟩ y).cell? ⟨b, 1, none⟩ = some y :=
  ⟨(h.set 0 x).cell 0, ((h.set 0 x).set 1 y).cell 1⟩

end Go.Proofs.YtippffjhkinfoaaGreatDoor
