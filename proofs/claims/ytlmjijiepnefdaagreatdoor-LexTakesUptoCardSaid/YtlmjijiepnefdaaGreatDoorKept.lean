/-
  A region whose order is drawn, whose operations read old memory, and whose callees make memory of their own alone: one walk in the order of the text serves every order.
-/
import Derived.Test.YtlmjijiepnefdaaGreatDoorCells
import Derived.BigQuiet
namespace Go.Proofs.YtlmjijiepnefdaaGreatDoor
open Go.RowKit

/-- A world in which all that W has is as it was. -/
structure Kept (W : World) where
  w : World
  h : Below W.heap.size W w

instance keptNonempty (W : World) : Nonempty (Kept W) := ⟨⟨W, Below.refl _ _⟩⟩

theorem wp_region_kept {P : Program} {id : Nat} {Q : Exit → Act → World → Prop} {a : Act} {W : World} {l : List Oper} (hm : P.follows .mixedOrders = true) (hB : Region.lexB .any l.toArray = true)
    (h : wpQuiet P l.toArray (fun w' => ∃ n : Kept W, w' = n.w) (fun a' => ∀ w', (∃ n : Kept W, w' = n.w) → Q .normal a' w') l a) : (Code.region id l.toArray true).wp P Q a W :=
  wp_region_quiet (C := fun w' => ∃ n : Kept W, w' = n.w) hm hB ⟨⟨W.drew, (Below.refl _ _).drew⟩, rfl⟩ (by simpa using h)

theorem Calls.kept {P : Program} {f : FuncId} {args : Array Value} {W : World} {n : Kept W} {v : Value}
    (h : Calls P f args n.w fun e w' => e = .returned v ∧ Below n.w.heap.size n.w w') : Calls P f args n.w fun e w'' => e = .returned v ∧ ∃ m : Kept W, w'' = m.w :=
  h.mono fun _ w' ⟨he, hb⟩ => ⟨he, ⟨w', n.h.trans (hb.mono n.h.size)⟩, rfl⟩

theorem Kept.cell {W : World} {a : Addr} {v : Value} (h : W.cell? a = some v) (n : Kept W) : n.w.cell? a = some v := (n.h.cell (World.block_lt_of_cell? _ _ h)).trans h

end Go.Proofs.YtlmjijiepnefdaaGreatDoor
