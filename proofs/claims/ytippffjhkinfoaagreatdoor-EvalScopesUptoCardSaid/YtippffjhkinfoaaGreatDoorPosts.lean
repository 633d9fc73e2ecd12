/-
  What calls of datum leave, as definitions.
-/
import Derived.Test.YtippffjhkinfoaaGreatDoorSmall
namespace Go.Proofs.YtippffjhkinfoaaGreatDoor
open Go.RowKit

/-- Right answers b and makes memory of its own alone. -/
def RightPost (b : Bool) (w : World) (e : Ending) (w' : World) : Prop := e = .returned (.bool b) ∧ Below w.heap.size w w'

/-- A value of kind K and number I (no text) and the error E come back; memory of its own alone is made. -/
def ResPost (K I E : Int) (w : World) (e : Ending) (w' : World) : Prop :=
  e = .returned (.tuple #[.agg #[.int .i64 K, .int .i64 I, .string noText], .int .i64 E]) ∧ Below w.heap.size w w'

end Go.Proofs.YtippffjhkinfoaaGreatDoor
