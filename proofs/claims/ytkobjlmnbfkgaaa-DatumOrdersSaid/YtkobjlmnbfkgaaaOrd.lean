/-
  The walk of the law DatumOrders: it returns true for every three values; no conditions.
-/
import Derived.Test.YtkobjlmnbfkgaaaCmp
import Derived.Deep.RegionHeld3
import Derived.Deep.DeepCutAuto
import Derived.Lib.Hide
namespace Go.Proofs.Ytkobjlmnbfkgaaa
open Go.RowKit

/-- Three new blocks, one behind the other: what their cells hold. -/
theorem cells3 (w : World) (A B C : Array Value) (t : TypeId) (W : World) (h : W = ((w.alloc (.cells A t)).alloc (.cells B t)).alloc (.cells C t)) :
    (∀ j, W.cell? ⟨w.heap.size, j, none⟩ = A[j]?) ∧ (∀ j, W.cell? ⟨w.heap.size + 1, j, none⟩ = B[j]?) ∧ (∀ j, W.cell? ⟨w.heap.size + 1 + 1, j, none⟩ = C[j]?)
    ∧ w.heap.size + 2 < W.heap.size ∧ Below w.heap.size w W := by
  subst h
  have e0 : (w.alloc (.cells A t)).heap[w.heap.size]? = some (.cells A t) := heap_alloc_new _ _
  have s1 : (w.alloc (.cells A t)).heap.size = w.heap.size + 1 := by simp
  have e1 : ((w.alloc (.cells A t)).alloc (.cells B t)).heap[w.heap.size + 1]? = some (.cells B t) := by rw [← s1]; exact heap_alloc_new _ _
  have s2 : ((w.alloc (.cells A t)).alloc (.cells B t)).heap.size = w.heap.size + 1 + 1 := by simp
  refine ⟨fun j => ?_, fun j => ?_, fun j => ?_, ?_, ?_⟩
  · refine cell_of_row _ _ _ A t (0, 0) ?_
    rw [heap_alloc_old _ _ (by omega), heap_alloc_old _ _ (by omega)]; exact e0
  · refine cell_of_row _ _ _ B t (0, 0) ?_
    rw [heap_alloc_old _ _ (by omega)]; exact e1
  · refine cell_of_row _ _ _ C t (0, 0) ?_
    rw [← s2]; exact heap_alloc_new _ _
  · simp
  · exact (((Below.refl _ _).alloc (Nat.le_refl _) _).alloc (by simp) _).alloc (by simp; omega) _

theorem bcell {W w1 : World} (hb : Below W.heap.size W w1) : (∀ b o, b < W.heap.size → w1.cell? ⟨b, o, none⟩ = W.cell? ⟨b, o, none⟩) ∧ (∀ b o, b < W.heap.size → w1.frozen? ⟨b, o, none⟩ = W.frozen? ⟨b, o, none⟩) :=
  ⟨fun b o h => hb.cell (p := ⟨b, o, none⟩) h, fun b o h => hb.frozen (p := ⟨b, o, none⟩) h⟩

theorem toList_iff (s1 s2 : ByteArray) : s1.toList = s2.toList ↔ s1 = s2 := by
  constructor
  · intro h
    rw [ByteArray.toList_eq, ByteArray.toList_eq] at h
    exact ba_eq h
  · intro h; rw [h]

theorem run_eq_datum (k1 i1 : Int) (s1 : ByteArray) (k2 i2 : Int) (s2 : ByteArray) (w : World) :
    (binOp .eql 23 (.agg #[.int .i64 k1, .int .i64 i1, .string s1]) (.agg #[.int .i64 k2, .int .i64 i2, .string s2])).run Try.prog w = .ok (.bool (decide (k1 = k2 ∧ i1 = i2 ∧ s1 = s2))) w := by
  go_simp
  simp only [toList_iff]
  by_cases h1 : k1 = k2
  · by_cases h2 : i1 = i2
    · by_cases h3 : s1 = s2
      · simp [h1, h2, h3]
      · simp [h1, h2, h3]
    · simp [h1, h2]
  · simp [h1]

/-- A comparison that answers X and makes memory of its own alone. -/
def CmpPost (X : Int) (w : World) (e : Ending) (w' : World) : Prop := e = .returned (.int .i64 X) ∧ Below w.heap.size w w'

theorem cmp_of {k1 i1 : Int} {s1 : ByteArray} {k2 i2 : Int} {s2 : ByteArray} {X : Int} (h : ordD k1 i1 s1 k2 i2 s2 = X) : ∀ w : World, Calls Try.prog 4 #[.agg #[.int .i64 k1, .int .i64 i1, .string s1], .agg #[.int .i64 k2, .int .i64 i2, .string s2]] w (CmpPost X w) := by
  intro w; rw [← h]; exact compare_any _ _ _ _ _ _ _

set_option maxHeartbeats 4000000 in
set_option maxRecDepth 100000 in
theorem orders_core (ka ia : Int) (sa : ByteArray) (kb ib : Int) (sb : ByteArray) (kc ic : Int) (sc : ByteArray) (X XR Y Z : Int) (E : Bool) (w : World)
    (HAB : Hid (∀ w : World, Calls Try.prog 4 #[(.agg #[.int .i64 ka, .int .i64 ia, .string sa]), (.agg #[.int .i64 kb, .int .i64 ib, .string sb])] w (CmpPost X w))) (HBC : Hid (∀ w : World, Calls Try.prog 4 #[(.agg #[.int .i64 kb, .int .i64 ib, .string sb]), (.agg #[.int .i64 kc, .int .i64 ic, .string sc])] w (CmpPost Y w))) (HAC : Hid (∀ w : World, Calls Try.prog 4 #[(.agg #[.int .i64 ka, .int .i64 ia, .string sa]), (.agg #[.int .i64 kc, .int .i64 ic, .string sc])] w (CmpPost Z w))) (HBA : Hid (∀ w : World, Calls Try.prog 4 #[(.agg #[.int .i64 kb, .int .i64 ib, .string sb]), (.agg #[.int .i64 ka, .int .i64 ia, .string sa])] w (CmpPost XR w))) (HAA : Hid (∀ w : World, Calls Try.prog 4 #[(.agg #[.int .i64 ka, .int .i64 ia, .string sa]), (.agg #[.int .i64 ka, .int .i64 ia, .string sa])] w (CmpPost 0 w)))
    (hE : ∀ w, (binOp .eql 23 (.agg #[.int .i64 ka, .int .i64 ia, .string sa]) (.agg #[.int .i64 kb, .int .i64 ib, .string sb])).run Try.prog w = .ok (.bool E) w)
    (hcase : (X = -1 ∧ XR = 1 ∧ E = false ∧ 0 < Y) ∨ (X = -1 ∧ XR = 1 ∧ E = false ∧ Y ≤ 0 ∧ Z ≤ 0) ∨ (X = 1 ∧ XR = -1 ∧ E = false ∧ Y < 0) ∨ (X = 1 ∧ XR = -1 ∧ E = false ∧ 0 ≤ Y ∧ 0 ≤ Z)
      ∨ (X = 0 ∧ XR = 0 ∧ E = true ∧ Y = Z ∧ 0 < Z) ∨ (X = 0 ∧ XR = 0 ∧ E = true ∧ Y = Z ∧ Z < 0) ∨ (X = 0 ∧ XR = 0 ∧ E = true ∧ Y = 0 ∧ Z = 0)) :
    Calls Try.prog 3 #[.agg #[.int .i64 ka, .int .i64 ia, .string sa], (.agg #[.int .i64 kb, .int .i64 ib, .string sb]), (.agg #[.int .i64 kc, .int .i64 ic, .string sc])] w fun e w' => e = .returned (.bool true) ∧ Below w.heap.size w w' := by
  rcases hcase with ⟨rfl, rfl, rfl, h1⟩ | ⟨rfl, rfl, rfl, h1, h2⟩ | ⟨rfl, rfl, rfl, h1⟩ | ⟨rfl, rfl, rfl, h1, h2⟩ | ⟨rfl, rfl, rfl, rfl, h1⟩ | ⟨rfl, rfl, rfl, rfl, h1⟩ | ⟨rfl, rfl, rfl, rfl, rfl⟩
  all_goals
    go_enter Try.func3, Try.ntmps3
    go_wp2_with fail
    have H3 := cells3 w #[.int .i64 ka, .int .i64 ia, .string sa] #[.int .i64 kb, .int .i64 ib, .string sb] #[.int .i64 kc, .int .i64 ic, .string sc] 23 _ rfl
    revert H3
    generalize ((w.alloc (Obj.cells #[Value.int IntKind.i64 ka, Value.int IntKind.i64 ia, Value.string sa] 23)).alloc (Obj.cells #[Value.int IntKind.i64 kb, Value.int IntKind.i64 ib, Value.string sb] 23)).alloc (Obj.cells #[Value.int IntKind.i64 kc, Value.int IntKind.i64 ic, Value.string sc] 23) = W1
    rintro ⟨hA, hB, hC, hz, hW1⟩
    have a0 := hA 0; have a1 := hA 1; have a2 := hA 2
    have b0 := hB 0; have b1 := hB 1; have b2 := hB 2
    have c0 := hC 0; have c1 := hC 1; have c2 := hC 2
    simp only [List.getElem?_toArray, List.getElem?_cons_zero, List.getElem?_cons_succ] at a0 a1 a2 b0 b1 b2 c0 c1 c2
    clear hA hB hC
    go_region_held3 (fun w' => w'.cell? ⟨w.heap.size, 0, none⟩ = some (.int .i64 ka) ∧ w'.cell? ⟨w.heap.size, 1, none⟩ = some (.int .i64 ia) ∧ w'.cell? ⟨w.heap.size, 2, none⟩ = some (.string sa)
       ∧ w'.cell? ⟨w.heap.size + 1, 0, none⟩ = some (.int .i64 kb) ∧ w'.cell? ⟨w.heap.size + 1, 1, none⟩ = some (.int .i64 ib) ∧ w'.cell? ⟨w.heap.size + 1, 2, none⟩ = some (.string sb)
       ∧ w'.cell? ⟨w.heap.size + 1 + 1, 0, none⟩ = some (.int .i64 kc) ∧ w'.cell? ⟨w.heap.size + 1 + 1, 1, none⟩ = some (.int .i64 ic) ∧ w'.cell? ⟨w.heap.size + 1 + 1, 2, none⟩ = some (.string sc)
       ∧ Below w.heap.size w w')
      (first
        | (go_split_ands; exact ⟨cell_later hb (by assumption), cell_later hb (by assumption), cell_later hb (by assumption), cell_later hb (by assumption), cell_later hb (by assumption), cell_later hb (by assumption), cell_later hb (by assumption), cell_later hb (by assumption), cell_later hb (by assumption), Below.trans (by assumption) (hb.mono (Below.size (by assumption)))⟩)
        | exact ⟨a0, a1, a2, b0, b1, b2, c0, c1, c2, hW1.drew⟩
        | go_keep)
      (first | (go_at_call 4; (first | (with_reducible refine (HAB.out _).mono ?_) | (with_reducible refine (HBC.out _).mono ?_) | (with_reducible refine (HAC.out _).mono ?_)); rintro e w' ⟨rfl, hb⟩))
    go_split_ands
    go_wp2_with (go_at_call 4; (first | (with_reducible refine (HBA.out _).mono ?_) | (with_reducible refine (HAA.out _).mono ?_)); rintro e w' ⟨rfl, hb⟩; have z0 : w'.cell? ⟨w.heap.size, 0, none⟩ = some (.int .i64 ka) := cell_later hb (by assumption); have z1 : w'.cell? ⟨w.heap.size, 1, none⟩ = some (.int .i64 ia) := cell_later hb (by assumption); have z2 : w'.cell? ⟨w.heap.size, 2, none⟩ = some (.string sa) := cell_later hb (by assumption); have hB2 := Below.trans (by assumption) (hb.mono (Below.size (by assumption))))
    go_ret
    exact ⟨rfl, by assumption⟩

end Go.Proofs.Ytkobjlmnbfkgaaa
