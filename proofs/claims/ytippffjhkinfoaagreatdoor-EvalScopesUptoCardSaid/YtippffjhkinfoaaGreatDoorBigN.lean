/-
  The reference's whole numbers: products, with their signs.
-/
import Derived.Test.YtippffjhkinfoaaGreatDoorBigM
import Derived.Test.YtippffjhkinfoaaGreatDoorBig5
namespace Go.Proofs.YtippffjhkinfoaaGreatDoor
open Go.RowKit

theorem bigTimes_any (m1 m2 : Bool) (v1 v2 : Value) (L1 L2 : List Int) (w : World) (h1 : DigV w v1 L1) (h2 : DigV w v2 L2) (n1 : DigOk L1) (n2 : DigOk L2) (hl : L1.length + L2.length ≤ 5000) :
    Calls Tryz.prog 67 #[.agg #[.bool m1, v1], .agg #[.bool m2, v2]] w (BigPost (zOf m1 L1 * zOf m2 L2) w) := by
  refine (times_any m1 m2 v1 v2 L1 L2 w h1 h2 n1 n2 hl).mono ?_
  rintro e w' ⟨v', L, rfl, hD, hN, hV, hB⟩
  refine ⟨_, v', L, rfl, hD, hN, ?_, hB⟩
  cases m1 <;> cases m2
  · show valD L = valD L1 * valD L2
    exact hV
  · show zOf (decide (0 < L.length)) L = valD L1 * -valD L2
    rw [zOf_dec, hV, Int.mul_neg]
  · show zOf (decide (0 < L.length)) L = -valD L1 * valD L2
    rw [zOf_dec, hV, Int.neg_mul]
  · show valD L = -valD L1 * -valD L2
    rw [hV, Int.neg_mul_neg]

theorem of_pos (i : Int) (w : World) (h0 : 0 ≤ i) (h1 : i ≤ 9223372036854775807) :
    Calls Tryz.prog 50 #[.int .i64 i] w fun e w' => ∃ A c L, e = .returned (.agg #[.bool false, .slice A L.length c]) ∧ DigB w' w.heap.size (.slice A L.length c) L ∧ Norm L ∧ valD L = i ∧ Below w.heap.size w w' := by
  refine (of_any i w (by omega) h1).mono ?_
  rintro e w' ⟨v', L, rfl, hD, hN, hV, hB⟩
  obtain ⟨A, c, rfl, _, _⟩ := DigV.open hD.1
  rw [if_neg (by omega)] at hV
  exact ⟨A, c, L, by rw [decide_eq_false (by omega)], hD, hN, hV, hB⟩
theorem Norm.len_of {L : List Int} (h : Norm L) {n : Nat} (hv : valD L < pw n) : L.length ≤ n := by
  rcases Nat.lt_or_ge n L.length with q | q
  · have := h.low n q
    omega
  · exact q
theorem zOf_abs {m : Bool} {L : List Int} (h : DigOk L) {v : Int} (h0 : 0 ≤ v) (hz : zOf m L = v) : valD L = v := by
  have := (valD_bound h).1
  cases m
  · exact hz
  · have : -valD L = v := hz
    omega

end Go.Proofs.YtippffjhkinfoaaGreatDoor
