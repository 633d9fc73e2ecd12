/-
  The program's Apply makes of any values what appR says.
  Parts of lists in memory; that what an expression is worth is right; how many arguments an operator takes, as the program asks it; worlds that change one block.
  The program's isSubquery, isThere, takes.
  The program's mayBe, allRight, subqueries.
  The program's mayBe: may an expression be, on rows?
  The program's subqueries: how many there are in some expressions.
  The program's walk: its state; truth, settles, pass; literals, columns, subqueries.
  The program's worth of literals, columns and subqueries; call by operators.
  The program's choice: CASE.
  The program's firstThere: COALESCE.
  The program's operation: any other operator.
  The program's worth, at any expression.
-/
import Derived.Test.YtippffjhkinfoaaGreatDoorPrApp
import Derived.Test.YtippffjhkinfoaaGreatDoorExAll
import Derived.BigQuiet
import Derived.Test.YtippffjhkinfoaaGreatDoorBigB
import Derived.Deep.RegionHeld3
import Derived.Laws.MakeOwn
namespace Go.Proofs.YtippffjhkinfoaaGreatDoor
open Go.RowKit

theorem apply_one (op : Int) (hop : op = 1 ∨ op = 2 ∨ op = 15 ∨ op = 18 ∨ op = 19 ∨ op = 20) (a : Dat) (v : Value) (w : World) (hv : DatV w v [a]) (hT : Tabs w) (ha : rightD a = true) (hI : InI a) :
    Calls Tryz.prog 60 #[.int .i64 op, v] w (ResT (oneR op a) w) := by
  have hA : [a].all rightD = true := by simp [ha]
  have hl : (([a] : List Dat).length : Int) = arityR op := by
    unfold arityR
    rw [if_pos hop]; rfl
  have hp : 0 < ([a] : List Dat).length := by simp
  have ch : (op = 1 ∨ op = 19 ∨ op = 20) → Calls Tryz.prog 60 #[.int .i64 op, v] w (ResT (unR op a) w) := fun ho =>
    apply_change op ho [a] v w hv a rfl hT hp hl hA _ (Lib.hid fun w' => change_any op ho a ha hI w')
  unfold oneR
  rcases hop with rfl | rfl | rfl | rfl | rfl | rfl
  · exact ch (.inl rfl)
  · rw [if_neg (by decide), if_pos rfl]
    exact apply_not 2 rfl [a] v w hv a rfl hT hp hl hA _ (Lib.hid fun w' => not_any a.k a.i a.s w')
  · rw [if_pos rfl]
    exact apply_isnull 15 rfl [a] v w hv a rfl hT hp hl hA
  · rw [if_neg (by decide), if_neg (by decide), if_pos rfl]
    exact apply_length 18 rfl [a] v w hv a rfl hT hp hl hA _ (Lib.hid fun w' => plen_any a ha w')
  · exact ch (.inr (.inl rfl))
  · exact ch (.inr (.inr rfl))

theorem apply_two (op : Int) (hop : 3 ≤ op ∧ op ≤ 14) (a b : Dat) (v : Value) (w : World) (hv : DatV w v [a, b]) (hT : Tabs w) (ha : rightD a = true) (hb : rightD b = true) (hI : InI a) (hJ : InI b) :
    Calls Tryz.prog 60 #[.int .i64 op, v] w (ResT (bothR op a b) w) := by
  have hA : [a, b].all rightD = true := by simp [ha, hb]
  have hl : (([a, b] : List Dat).length : Int) = arityR op := by
    unfold arityR
    rw [if_neg (by omega), if_pos hop]; rfl
  have hp : 0 < ([a, b] : List Dat).length := by simp
  unfold bothR
  by_cases o13 : op = 13
  · subst o13
    rw [if_pos rfl]
    exact apply_and 13 rfl [a, b] v w hv a b rfl hT hp hl hA _ (Lib.hid fun w' => join_and a.k a.i a.s b.k b.i b.s w')
  · rw [if_neg o13]
    by_cases o14 : op = 14
    · subst o14
      rw [if_pos rfl]
      exact apply_or 14 rfl [a, b] v w hv a b rfl hT hp hl hA _ (Lib.hid fun w' => join_or a.k a.i a.s b.k b.i b.s w')
    · rw [if_neg o14]
      by_cases oc : 7 ≤ op ∧ op ≤ 12
      · rw [if_pos oc]
        have h6 : op = 7 ∨ op = 8 ∨ op = 9 ∨ op = 10 ∨ op = 11 ∨ op = 12 := by omega
        exact apply_relate op h6 [a, b] v w hv a b rfl hT hp hl hA _ (Lib.hid fun w' => relate_any op h6 a b ha hb hI hJ w')
      · rw [if_neg oc]
        have h4 : op = 3 ∨ op = 4 ∨ op = 5 ∨ op = 6 := by omega
        exact apply_reckon op h4 [a, b] v w hv a b rfl hT hp hl hA _ (Lib.hid fun w' => reckon_any op h4 a b ha hb hI hJ w')

/-- The program's Apply. -/
theorem apply_any (op : Int) (L : List Dat) (v : Value) (w : World) (hv : DatV w v L) (hT : Tabs w) (hI : ∀ d ∈ L, InI d) :
    Calls Tryz.prog 60 #[.int .i64 op, v] w (ResT (appR op L) w) := by
  by_cases hm : arityR op = 0
  · unfold appR
    rw [if_pos (.inl hm)]
    exact apply_none op L v w hv hm
  · by_cases hl : (L.length : Int) = arityR op
    · cases ha : L.all rightD
      · unfold appR
        rw [if_pos (.inr (.inr ha))]
        refine apply_bad op L v w hv hT ?_ hl ha
        rcases arity_cases hm with h | h <;> omega
      · rw [appR_eq hm hl ha]
        rcases arity_cases hm with ⟨h1, h2⟩ | ⟨h1, h2⟩
        · match L, hv, hI, hl, ha with
          | [a], hv, hI, hl, ha => exact apply_one op h2 a v w hv hT (by simpa using ha) (hI a (by simp))
          | [], _, _, hl, _ => rw [h1] at hl; exact absurd hl (by decide)
          | _ :: _ :: _, _, _, hl, _ => rw [h1] at hl; simp at hl; omega
        · match L, hv, hI, hl, ha with
          | [a, b], hv, hI, hl, ha =>
            simp only [List.all_cons, List.all_nil, Bool.and_true, Bool.and_eq_true] at ha
            exact apply_two op h2 a b v w hv hT ha.1 ha.2 (hI a (by simp)) (hI b (by simp))
          | [], _, _, hl, _ => rw [h1] at hl; exact absurd hl (by decide)
          | [_], _, _, hl, _ => rw [h1] at hl; simp at hl
          | _ :: _ :: _ :: _, _, _, hl, _ => rw [h1] at hl; simp at hl; omega
    · unfold appR
      rw [if_pos (.inr (.inl hl))]
      exact apply_len op L v w hv hm hl

/-- The first so many of a list. -/
theorem DatV.take {w : World} {A : Option Addr} {c : Nat} {L : List Dat} (h : DatV w (.slice A L.length c) L) (n : Nat) (hn : n ≤ L.length) : DatV w (.slice A n c) (L.take n) := by
  have hl : (L.take n).length = n := by rw [List.length_take]; omega
  rcases h with ⟨⟨A1, e⟩, rfl⟩ | ⟨b, off, cap, e, hm, hlt, hat, hc⟩
  · injection e with e1 e2 e3
    subst e1 e3
    obtain rfl : n = 0 := by simpa using hn
    exact .inl ⟨⟨_, rfl⟩, rfl⟩
  · injection e with e1 e2 e3
    subst e1 e3
    refine .inr ⟨b, off, c, by rw [hl], by rw [hl]; omega, hlt, ?_, by rw [hl]; omega⟩
    intro i x hi r u hr
    refine hat i x ?_ r u hr
    rw [List.getElem?_take] at hi
    split at hi
    · exact hi
    · cases hi

end Go.Proofs.YtippffjhkinfoaaGreatDoor

namespace Go.Proofs.YtippffjhkinfoaaGreatDoor
open Go.RowKit

/-- A part of a list in memory. -/
theorem ValW.part {α : Type} {enc : α → List Value} {k : Nat} {w : World} {A : Option Addr} {c : Nat} {S : List α} (h : ValW enc k w (.slice A S.length c) S) (i j : Nat) (hi : i ≤ j) (hj : j ≤ S.length) (hc : j ≤ c) :
    ValW enc k w (.slice (if c = i then A else A.map (fun a => ⟨a.block, a.off + i * k, none⟩)) (j - i) (c - i)) ((S.drop i).take (j - i)) := by
  have hlen : ((S.drop i).take (j - i)).length = j - i := by rw [List.length_take, List.length_drop]; omega
  rcases h with ⟨⟨A1, e⟩, rfl⟩ | ⟨b, off, c', e, hm, hb, hat, hcc⟩
  · injection e with e1 e2 e3
    subst e1 e3
    simp only [List.length_nil] at hj
    obtain rfl : i = 0 := by omega
    obtain rfl : j = 0 := by omega
    exact .inl ⟨⟨_, rfl⟩, rfl⟩
  · injection e with e1 e2 e3
    subst e1 e3
    have hat' : AtG enc k w b (off + i * k) ((S.drop i).take (j - i)) := by
      intro n x hn r u hr
      rw [List.getElem?_take] at hn
      split at hn
      · rw [List.getElem?_drop] at hn
        have := hat (i + n) x hn r u hr
        rw [show off + i * k + n * k + r = off + (i + n) * k + r by rw [Nat.add_mul]; omega]
        exact this
      · cases hn
    by_cases hci : c = i
    · rw [if_pos hci]
      have h0 : (S.drop i).take (j - i) = [] := List.eq_nil_of_length_eq_zero (by rw [hlen]; omega)
      rw [h0] at *
      refine .inr ⟨b, off, c - i, by rw [show j - i = 0 by omega]; rfl, by simp, hb, ?_, by simp⟩
      intro n x hn
      simp at hn
    · rw [if_neg hci]
      refine .inr ⟨b, off + i * k, c - i, ?_, ?_, hb, hat', ?_⟩
      · rw [hlen]; rfl
      · rw [hlen]; omega
      · rw [hlen]; omega
/-- What stands from the i-th on. -/
theorem ValW.rest {α : Type} {enc : α → List Value} {k : Nat} {w : World} {A : Option Addr} {c : Nat} {S : List α} (h : ValW enc k w (.slice A S.length c) S) (i : Nat) (hi : i ≤ S.length) (hc : S.length ≤ c) :
    ValW enc k w (.slice (if c = i then A else A.map (fun a => ⟨a.block, a.off + i * k, none⟩)) (S.length - i) (c - i)) (S.drop i) := by
  have h := h.part i S.length hi (Nat.le_refl _) hc
  rwa [List.take_of_length_le (by rw [List.length_drop]; exact Nat.le_refl _)] at h

/-- A number's or a BOOL's or NULL's value may be. -/
def RightT (t : Tri) : Prop := rightD ⟨t.1, t.2.1, noText⟩ = true
theorem noText_size : noText.size = 0 := rfl
theorem rightT_zero (e : Int) : RightT (0, 0, e) := by unfold RightT rightD; simp [noText_size]
theorem rightT_bit (b : Bool) (e : Int) : RightT (1, bitOf b, e) := by unfold RightT rightD; cases b <;> simp [noText_size, bitOf]
theorem rightT_two (i e : Int) : RightT (2, i, e) := by unfold RightT rightD; simp [noText_size]
theorem rightT_three (i e : Int) : RightT (3, i, e) := by unfold RightT rightD; simp [noText_size]
theorem rightT_num {k : Int} (h : k = 2 ∨ k = 3) (i e : Int) : RightT (k, i, e) := by
  rcases h with rfl | rfl
  · exact rightT_two _ _
  · exact rightT_three _ _
theorem rightT_fit {k : Int} (h : k = 2 ∨ k = 3) (z : Int) : RightT (fitT k z) := by
  unfold fitT fitK fitI
  split
  · exact rightT_num h _ _
  · exact rightT_zero _
theorem rightT_join (k1 i1 k2 i2 st : Int) : RightT (joinR k1 i1 k2 i2 st) := by
  unfold joinR
  repeat' split
  all_goals first
    | exact rightT_zero _
    | exact rightT_bit _ _
theorem rightT_not (k i : Int) : RightT (notR k i) := by
  unfold notR
  repeat' split
  all_goals first
    | exact rightT_zero _
    | exact rightT_bit _ _
theorem rightT_len (d : Dat) : RightT (lenR d) := by
  unfold lenR
  repeat' split
  all_goals first
    | exact rightT_zero _
    | exact rightT_two _ _
theorem rightT_un (op : Int) (a : Dat) : RightT (unR op a) := by
  unfold unR
  by_cases ho : okEl 2 3 a = false
  · rw [if_pos ho]; exact rightT_zero _
  · rw [if_neg ho]
    by_cases h0 : a.k = 0
    · rw [if_pos h0]; exact rightT_zero _
    · rw [if_neg h0]
      have hk : a.k = 2 ∨ a.k = 3 := by
        rw [Bool.not_eq_false] at ho
        unfold okEl at ho
        have := of_decide_eq_true ho
        omega
      split
      · exact rightT_fit (.inr rfl) _
      · split
        · exact rightT_fit hk _
        · exact rightT_num hk _ _
theorem rightT_op (op : Int) {k : Int} (h : k = 2 ∨ k = 3) (u z1 z2 : Int) : RightT (twoR op k u z1 z2) := by
  unfold twoR
  repeat' split
  all_goals first
    | exact rightT_zero _
    | exact rightT_fit h _
theorem rightT_bin (op : Int) (a b : Dat) : RightT (binR op a b) := by
  unfold binR
  repeat' split
  all_goals first
    | exact rightT_zero _
    | exact rightT_op _ (.inl rfl) _ _ _
    | exact rightT_op _ (.inr rfl) _ _ _
theorem rightT_rel (op : Int) (a b : Dat) : RightT (relR op a b) := by
  unfold relR
  repeat' split
  all_goals first
    | exact rightT_zero _
    | exact rightT_bit _ _
theorem rightT_app (op : Int) (L : List Dat) : RightT (appR op L) := by
  unfold appR
  split
  · exact rightT_zero _
  · split
    · unfold oneR
      repeat' split
      all_goals first
        | exact rightT_bit _ _
        | exact rightT_not _ _
        | exact rightT_len _
        | exact rightT_un _ _
    · unfold bothR
      repeat' split
      all_goals first
        | exact rightT_join _ _ _ _ _
        | exact rightT_rel _ _ _
        | exact rightT_bin _ _ _
    · exact rightT_zero _

theorem right_nul (f : Int) : rightD (nulX f).1 = true := rightT_zero 0
theorem right_case : ∀ V : List Va, (∀ x ∈ V, rightD x.1 = true) → rightD (caseX V).1 = true
  | [], _ => by rw [caseX]; exact right_nul _
  | [a], h => by rw [caseX]; exact h a (by simp)
  | a :: b :: l, h => by
    rw [caseX]
    split
    · exact right_nul _
    · split
      · exact right_nul _
      · split
        · exact h b (by simp)
        · exact right_case l fun x hx => h x (by simp [hx])
theorem right_oth (op : Int) : ∀ (V : List Va) (n : Nat) (acc : List Dat), (∀ x ∈ V, rightD x.1 = true) → rightD (othX op n acc V).1 = true
  | [], n, acc, _ => by
    rw [othX]
    split
    · exact right_nul _
    · exact rightT_app op acc
  | x :: l, n, acc, h => by
    rw [othX]
    split
    · exact right_nul _
    · split
      · exact h x (by simp)
      · split
        · exact h x (by simp)
        · exact right_oth op l (n + 1) _ (fun y hy => h y (by simp [hy]))
theorem right_xs (env : Env) (P : Ex → Prop) (hP : ∀ x, P x → ∀ S : List Dat, (∀ d ∈ S, rightD d = true) → rightD (valX env x S).1 = true) : ∀ (L : List Ex) (S : List Dat), (∀ x ∈ L, P x) → (∀ d ∈ S, rightD d = true) → ∀ y ∈ valXs env L S, rightD y.1 = true
  | [], S, _, _, y, hy => by rw [valXs_nil] at hy; cases hy
  | e :: l, S, h, hS, y, hy => by
    rw [valXs_cons] at hy
    rcases List.mem_cons.1 hy with rfl | hy
    · exact hP e (h e (by simp)) _ fun d hd => hS d (List.mem_of_mem_take hd)
    · exact right_xs env P hP l _ (fun x hx => h x (by simp [hx])) (fun d hd => hS d (List.mem_of_mem_drop hd)) y hy
/-- What a right expression is worth may be. -/
theorem right_val {env : Env} {e : Ex} (h : ExB e) : rightX env e = true → ∀ S : List Dat, (∀ d ∈ S, rightD d = true) → rightD (valX env e S).1 = true := by
  induction h with
  | mk e hI hn hk ih =>
    intro hr S hS
    rw [rightX_eq] at hr
    rw [valX_eq]
    by_cases h1 : e.k = 1
    · rw [if_pos h1] at hr ⊢
      exact hr
    · rw [if_neg h1] at hr ⊢
      by_cases h2 : e.k = 2
      · rw [if_pos h2] at hr ⊢
        cases hc : colX e.lv e.col env with
        | none => rw [hc] at hr; cases hr
        | some d => rw [hc] at hr; exact hr
      · rw [if_neg h2] at hr ⊢
        by_cases h3 : e.k = 3
        · rw [if_pos h3] at hr ⊢
          rw [Bool.and_eq_true, rightXs_all, List.all_eq_true] at hr
          have hV := right_xs env (fun x => x ∈ e.kids) (fun x hx S hS => ih x hx (hr.1 x hx) S hS) e.kids S (fun x hx => hx) hS
          unfold callX
          split
          · exact right_case _ hV
          · exact right_oth _ _ _ _ hV
        · rw [if_neg h3]
          cases S with
          | nil => exact right_nul 0
          | cons d l => exact hS d (by simp)

/-- An operator has no error on NULLs just if they are as many as it has arguments. -/
theorem app_null (op : Int) : ∀ n : Nat, n ≤ 2 → decide ((appR op (List.replicate n nullD)).2.2 = 0) = decide (0 < n ∧ (n : Int) = arityR op)
  | 0, _ => by
    rw [decide_eq_decide]
    refine ⟨fun h => ?_, fun h => absurd h.1 (by decide)⟩
    exfalso
    revert h
    unfold appR
    split
    · decide
    · simp [List.replicate]
  | 1, _ => by
    rw [decide_eq_decide]
    have hR : List.replicate 1 nullD = [nullD] := rfl
    rw [hR]
    by_cases ha : arityR op = 1
    · have hop : op = 1 ∨ op = 2 ∨ op = 15 ∨ op = 18 ∨ op = 19 ∨ op = 20 := by
        rcases arity_cases (op := op) (by omega) with ⟨_, h⟩ | ⟨h, _⟩
        · exact h
        · omega
      refine ⟨fun _ => ⟨by decide, by rw [ha]; rfl⟩, fun _ => ?_⟩
      rcases hop with rfl | rfl | rfl | rfl | rfl | rfl <;> decide
    · refine ⟨fun h => ?_, fun h => absurd h.2.symm ha⟩
      exfalso
      revert h
      unfold appR
      rw [if_pos (.inr (.inl (by simp; omega)))]
      decide
  | 2, _ => by
    rw [decide_eq_decide]
    have hR : List.replicate 2 nullD = [nullD, nullD] := rfl
    rw [hR]
    by_cases ha : arityR op = 2
    · have hop : op = 3 ∨ op = 4 ∨ op = 5 ∨ op = 6 ∨ op = 7 ∨ op = 8 ∨ op = 9 ∨ op = 10 ∨ op = 11 ∨ op = 12 ∨ op = 13 ∨ op = 14 := by
        rcases arity_cases (op := op) (by omega) with ⟨h, _⟩ | ⟨_, h⟩
        · omega
        · omega
      refine ⟨fun _ => ⟨by decide, by rw [ha]; rfl⟩, fun _ => ?_⟩
      rcases hop with rfl | rfl | rfl | rfl | rfl | rfl | rfl | rfl | rfl | rfl | rfl | rfl <;> decide
    · refine ⟨fun h => ?_, fun h => absurd h.2.symm ha⟩
      exfalso
      revert h
      unfold appR
      rw [if_pos (.inr (.inl (by simp; omega)))]
      decide
  | n + 3, h => by omega
theorem arity_le (op : Int) : arityR op ≤ 2 := by
  unfold arityR
  split
  · decide
  · split <;> decide

/-- Below block number B the world w' is as w was, but for one block. -/
structure ButB (p B : Nat) (w w' : World) : Prop where
  os : w'.os = w.os
  tape : w'.tape = w.tape
  output : w'.output = w.output
  size : w.heap.size ≤ w'.heap.size
  block : ∀ k, k < B → k ≠ p → w'.heap[k]? = w.heap[k]?

section
variable {p B : Nat} {a w w' : World}
theorem ButB.refl (p B : Nat) (w : World) : ButB p B w w := ⟨rfl, rfl, rfl, Nat.le_refl _, fun _ _ _ => rfl⟩
theorem ButB.trans (h : ButB p B a w) (k : ButB p B w w') : ButB p B a w' :=
  ⟨k.os.trans h.os, k.tape.trans h.tape, k.output.trans h.output, Nat.le_trans h.size k.size, fun i hi hp => (k.block i hi hp).trans (h.block i hi hp)⟩
theorem ButB.mono {B' : Nat} (h : ButB p B w w') (hB : B' ≤ B) : ButB p B' w w' := ⟨h.os, h.tape, h.output, h.size, fun k hk hp => h.block k (Nat.lt_of_lt_of_le hk hB) hp⟩
theorem ButB.of (p : Nat) (h : Below B w w') : ButB p B w w' := ⟨h.os, h.tape, h.output, h.size, fun k hk _ => h.block k hk⟩
theorem ButB.add (h : ButB p B a w) (k : Below w.heap.size w w') (hB : B ≤ w.heap.size) : ButB p B a w' := h.trans (ButB.of p (k.mono hB))
theorem ButB.alloc (h : ButB p B a w) (hB : B ≤ w.heap.size) (o : Obj) : ButB p B a (w.alloc o) := h.add ((Below.refl _ w).alloc (Nat.le_refl _) o) hB
theorem ButB.drew (h : ButB p B a w) : ButB p B a w.drew := ⟨h.os, h.tape, h.output, h.size, h.block⟩
theorem ButB.setCell (h : ButB p B a w) {q : Addr} (hq : B ≤ q.block ∨ q.block = p) (u : Value) : ButB p B a (w.setCell q u) :=
  h.trans ⟨rfl, rfl, rfl, by simp [World.setCell], fun k hk hp => Below.heap_setCell _ _ _ _ (by omega)⟩
theorem ButB.cell (h : ButB p B w w') {q : Addr} (hq : q.block < B) (hp : q.block ≠ p) : w'.cell? q = w.cell? q := World.cell?_of_block (w := w) (h.block q.block hq hp)
theorem ButB.below {B' : Nat} (h : ButB p B w w') (h1 : B' ≤ p) (h2 : B' ≤ B) : Below B' w w' := ⟨h.os, h.tape, h.output, h.size, fun k hk => h.block k (by omega) (by omega)⟩
theorem Blk.but {b : Nat} {cs : Array Value} {t : TypeId} (h : Blk w b cs t) (hb : ButB p B w w') (hB : b < B) (hp : b ≠ p) : Blk w' b cs t := by
  unfold Blk at *; rw [hb.block b hB hp]; exact h
end

end Go.Proofs.YtippffjhkinfoaaGreatDoor

namespace Go.Proofs.YtippffjhkinfoaaGreatDoor
open Go.RowKit

theorem below_drewn {B : Nat} {a w : World} (h : Below B a w) (n : Nat) : Below B a (w.drewN n) := h.trans ⟨rfl, rfl, rfl, Nat.le_refl _, fun _ _ => rfl⟩
/-- Is it a subquery? -/
def subB (k : Int) : Bool := decide (4 ≤ k ∧ k ≤ 6)
theorem subB_no {k : Int} (h : k = 1 ∨ k = 2 ∨ k = 3) : subB k = false := by rcases h with rfl | rfl | rfl <;> decide
theorem subB_yes {k : Int} (h : k = 4 ∨ k = 5 ∨ k = 6) : subB k = true := by rcases h with rfl | rfl | rfl <;> decide

set_option maxRecDepth 100000 in
set_option maxHeartbeats 8000000 in
theorem isSub_any (k t : Int) (nl : Bool) (lit : Dat) (lv col op : Int) (A sA : Option Addr) (n c sn sc : Nat) (w : World) :
    Calls Tryz.prog 38 #[.agg #[.int .i64 k, .int .i64 t, .bool nl, .int .i64 lit.k, .int .i64 lit.i, .string lit.s, .int .i64 lv, .int .i64 col, .int .i64 op, .slice A n c, .slice sA sn sc]] w (RightPost (subB k) w) := by
  have hb1 := (Below.refl w.heap.size w).alloc (Nat.le_refl _) (.cells #[.int .i64 k, .int .i64 t, .bool nl, .int .i64 lit.k, .int .i64 lit.i, .string lit.s, .int .i64 lv, .int .i64 col, .int .i64 op, .slice A n c, .slice sA sn sc] 30)
  by_cases h4 : k = 4
  · subst h4
    go_enter Tryz.func38, Tryz.ntmps38
    go_wp2_with fail
    go_ret
    exact ⟨rfl, hb1⟩
  · by_cases h5 : k = 5
    · subst h5
      go_enter Tryz.func38, Tryz.ntmps38
      go_wp2_with fail
      go_ret
      exact ⟨rfl, hb1⟩
    · by_cases h6 : k = 6
      · subst h6
        go_enter Tryz.func38, Tryz.ntmps38
        go_wp2_with fail
        go_ret
        exact ⟨rfl, hb1⟩
      · have HQ : Hid (subB k = false) := decide_eq_false (by omega)
        have e4 : (k == 4) = false := beq_eq_false_iff_ne.2 h4
        have e5 : (k == 5) = false := beq_eq_false_iff_ne.2 h5
        have e6 : (k == 6) = false := beq_eq_false_iff_ne.2 h6
        clear h4 h5 h6
        go_enter Tryz.func38, Tryz.ntmps38
        go_wp2_with fail
        go_ret
        exact ⟨by rw [HQ.out]; rfl, hb1⟩

set_option maxRecDepth 100000 in
set_option maxHeartbeats 8000000 in
theorem isThere_any (k t : Int) (nl : Bool) (lit : Dat) (lv col op : Int) (A sA : Option Addr) (n c sn sc : Nat) (vE : Value) (env : Env) (w : World) (hE : EnvV w vE env) :
    Calls Tryz.prog 34 #[.agg #[.int .i64 k, .int .i64 t, .bool nl, .int .i64 lit.k, .int .i64 lit.i, .string lit.s, .int .i64 lv, .int .i64 col, .int .i64 op, .slice A n c, .slice sA sn sc], vE] w (RightPost (colX lv col env).isSome w) := by
  obtain ⟨Ae, ce, rfl, hce, hme⟩ := hE.slice
  have hb1 := (Below.refl w.heap.size w).alloc (Nat.le_refl _) (.cells #[.int .i64 k, .int .i64 t, .bool nl, .int .i64 lit.k, .int .i64 lit.i, .string lit.s, .int .i64 lv, .int .i64 col, .int .i64 op, .slice A n c, .slice sA sn sc] 30)
  by_cases h1 : lv < 0
  · rw [colX_none (.inl h1)]
    have d0 : decide (0 ≤ lv) = false := decide_eq_false (by omega)
    clear h1
    go_enter Tryz.func34, Tryz.ntmps34
    go_wp2_with fail
    go_quiet (fail)
    go_wp2_with fail
    go_ret
    exact ⟨rfl, below_drewn hb1 _⟩
  · obtain ⟨i, rfl⟩ : ∃ i : Nat, lv = i := ⟨lv.toNat, by omega⟩
    clear h1
    have d0 : decide ((0 : Int) ≤ (i : Int)) = true := decide_eq_true (by omega)
    have p0 : (0 : Int) ≤ (i : Int) := by omega
    by_cases h2 : (env.length : Int) ≤ i
    · rw [colX_none (.inr (.inl h2))]
      have d1 : decide ((i : Int) < (env.length : Int)) = false := decide_eq_false (by omega)
      have n1 : decide (i < env.length) = false := decide_eq_false (by omega)
      clear h2
      go_enter Tryz.func34, Tryz.ntmps34
      go_wp2_with fail
      go_quiet (fail)
      go_wp2_with fail
      go_ret
      exact ⟨rfl, below_drewn hb1 _⟩
    · have hi : i < env.length := by omega
      have d1 : decide ((i : Int) < (env.length : Int)) = true := decide_eq_true (by omega)
      have hi' : (i : Int) < env.length := by omega
      have hi0 : (0 : Int) ≤ i := by omega
      obtain ⟨b, off, B, m, rfl, hbl, hcell, hrow⟩ := hE.row i hi
      have hcell1 := (hb1.cell (p := ⟨b, off + i, none⟩) hbl).trans hcell
      clear h2 hE hcell hrow
      by_cases h3 : col < 0
      · rw [colX_none (.inr (.inr (.inl h3)))]
        have d2 : decide ((0 : Int) ≤ col) = false := decide_eq_false (by omega)
        clear h3
        go_enter Tryz.func34, Tryz.ntmps34
        go_wp2_with fail
        go_quiet (fail)
        go_wp2_with fail
        go_ret
        exact ⟨rfl, below_drewn hb1 _⟩
      · obtain ⟨j, rfl⟩ : ∃ j : Nat, col = j := ⟨col.toNat, by omega⟩
        have d2 : decide ((0 : Int) ≤ (j : Int)) = true := decide_eq_true (by omega)
        have p2 : (0 : Int) ≤ (j : Int) := by omega
        clear h3
        by_cases h4 : (env[i].l.length : Int) ≤ j
        · rw [colX_none (.inr (.inr (.inr ⟨i, rfl, hi, h4⟩)))]
          have d3 : decide ((j : Int) < (env[i].l.length : Int)) = false := decide_eq_false (by omega)
          have hj : decide (j < env[i].l.length) = false := decide_eq_false (by omega)
          clear h4
          revert d3 hj hcell1
          generalize env[i].l.length = rl
          intro d3 hj hcell1
          go_enter Tryz.func34, Tryz.ntmps34
          go_wp2_with fail
          go_quiet (fail)
          go_wp2_with fail
          go_ret
          exact ⟨rfl, below_drewn hb1 _⟩
        · have hj : j < env[i].l.length := by omega
          rw [colX_some i j rfl rfl hi hj]
          have d3 : decide ((j : Int) < (env[i].l.length : Int)) = true := decide_eq_true (by omega)
          clear h4
          simp only [Option.isSome_some]
          revert d3 hj hcell1
          generalize env[i].l.length = rl
          intro d3 hj hcell1
          go_enter Tryz.func34, Tryz.ntmps34
          go_wp2_with fail
          go_quiet (fail)
          go_wp2_with fail
          go_ret
          exact ⟨rfl, below_drewn hb1 _⟩

theorem valD_nulls (w : World) (b n : Nat) (hn : n ≤ 2) (tt : TypeId) (hb : Blk w b #[.int .i64 0, .int .i64 0, .string noText, .int .i64 0, .int .i64 0, .string noText] tt) : DatV w (.slice (some ⟨b, 0, none⟩) n 2) (List.replicate n nullD) := by
  refine .inr ⟨b, 0, 2, by rw [List.length_replicate], by rw [List.length_replicate]; unfold maxLen; omega, hb.lt, ?_, by rw [List.length_replicate]; exact hn⟩
  intro j z hj r u hr
  rw [List.getElem?_replicate] at hj
  split at hj
  · injection hj with hj
    subst hj
    have h3 : r < 3 := by have := (List.getElem?_eq_some_iff.mp hr).1; simpa [encDat] using this
    rw [show 0 + j * 3 + r = j * 3 + r by omega, hb.cell]
    have hj2 : j = 0 ∨ j = 1 := by omega
    have hr3 : r = 0 ∨ r = 1 ∨ r = 2 := by omega
    rcases hj2 with rfl | rfl <;> rcases hr3 with rfl | rfl | rfl <;> simpa [encDat, nullD] using hr
  · cases hj

set_option maxRecDepth 100000 in
set_option maxHeartbeats 8000000 in
theorem takes_any (op : Int) (n : Nat) (w : World) (hT : Tabs w) (hm : (n : Int) ≤ 9223372036854775807) :
    Calls Tryz.prog 35 #[.int .i64 op, .int .i64 n] w (RightPost (manyX op n) w) := by
  have hb1 := (Below.refl w.heap.size w).alloc (Nat.le_refl _) (.cells #[.int .i64 0, .int .i64 0, .string noText, .int .i64 0, .int .i64 0, .string noText] 97)
  unfold manyX
  by_cases h1 : op = 16
  · subst h1
    rw [if_pos rfl]
    have e : decide (2 ≤ n) = decide ((2 : Int) ≤ n) := by rw [decide_eq_decide]; omega
    rw [e]
    go_enter Tryz.func35, Tryz.ntmps35
    go_wp2_with fail
    go_ret
    exact ⟨rfl, hb1⟩
  · have e1 : (op == 16) = false := beq_eq_false_iff_ne.2 h1
    rw [if_neg h1]
    by_cases h2 : op = 17
    · subst h2
      rw [if_pos rfl]
      have e : decide (1 ≤ n) = decide ((1 : Int) ≤ n) := by rw [decide_eq_decide]; omega
      rw [e]
      go_enter Tryz.func35, Tryz.ntmps35
      go_wp2_with fail
      go_ret
      exact ⟨rfl, hb1⟩
    · have e2 : (op == 17) = false := beq_eq_false_iff_ne.2 h2
      rw [if_neg h2]
      clear h1 h2
      by_cases hn : n ≤ 2
      · rw [← app_null op n hn]
        have bZ := Blk.new w #[.int .i64 0, .int .i64 0, .string noText, .int .i64 0, .int .i64 0, .string noText] 97
        have hI : ∀ d ∈ List.replicate n nullD, InI d := fun d hd => by rw [List.eq_of_mem_replicate hd]; exact nulX_in 0
        have HA := Lib.hid (apply_any op _ _ _ (valD_nulls _ _ n hn _ bZ) (hT.below ((Below.refl _ w).alloc (Nat.le_refl _) (.cells #[.int .i64 0, .int .i64 0, .string noText, .int .i64 0, .int .i64 0, .string noText] 97))) hI)
        clear bZ hI hT
        revert HA
        generalize appR op (List.replicate n nullD) = r
        obtain ⟨K, I, E⟩ := r
        unfold ResT ResPost
        intro HA
        simp only at HA ⊢
        rw [show decide (E = 0) = (E == 0) by rw [Bool.eq_iff_iff]; simp]
        have hn2 : (n : Int) ≤ 2 := by omega
        have hn0 : (0 : Int) ≤ n := by omega
        clear hn
        go_enter Tryz.func35, Tryz.ntmps35
        go_wp2_with (go_at_call 60; (with_reducible refine HA.out.mono ?_); rintro e w5 ⟨rfl, hb5⟩; have h5 := hb1.trans (hb5.mono hb1.size))
        go_ret
        exact ⟨rfl, h5.alloc h5.size _⟩
      · rw [decide_eq_false (fun h => by have := arity_le op; omega)]
        have h3 : (2 : Int) < n := by omega
        clear hn
        go_enter Tryz.func35, Tryz.ntmps35
        go_wp2_with fail
        go_ret
        exact ⟨rfl, hb1⟩

end Go.Proofs.YtippffjhkinfoaaGreatDoor

namespace Go.Proofs.YtippffjhkinfoaaGreatDoor
open Go.RowKit

theorem anyx_take {p : Ex → Bool} {L : List Ex} {n : Nat} (hn : n < L.length) (h : (L.take n).any p = false) (hp : p L[n] = false) : (L.take (n + 1)).any p = false := by
  rw [List.take_add_one, List.any_append, h, List.getElem?_eq_getElem hn]
  simpa using hp
theorem anyx_hit {p : Ex → Bool} {L : List Ex} {n : Nat} (hn : n < L.length) (hp : p L[n] = true) : L.any p = true := by
  rw [List.any_eq_true]
  exact ⟨_, List.getElem_mem hn, hp⟩
theorem anyd_take {p : Dat → Bool} {L : List Dat} {n : Nat} (hn : n < L.length) (h : (L.take n).any p = false) (hp : p L[n] = false) : (L.take (n + 1)).any p = false := by
  rw [List.take_add_one, List.any_append, h, List.getElem?_eq_getElem hn]
  simpa using hp
theorem anyd_hit {p : Dat → Bool} {L : List Dat} {n : Nat} (hn : n < L.length) (hp : p L[n] = true) : L.any p = true := by
  rw [List.any_eq_true]
  exact ⟨_, List.getElem_mem hn, hp⟩
/-- A place of a list comes back, from 0 on just if one is there. -/
def IdxPost (b : Bool) (w : World) (e : Ending) (w' : World) : Prop := ∃ z : Int, e = .returned (.int .i64 z) ∧ decide (0 ≤ z) = b ∧ Below w.heap.size w w'

set_option maxRecDepth 100000 in
set_option maxHeartbeats 8000000 in
theorem idxE_any (kids : List Ex) (p : Ex → Bool) (A : Option Addr) (c B : Nat) (w : World) (hv : ExsV w (.slice A kids.length c) kids) (hk : ∀ x ∈ kids, (∃ A c, x.kv = .slice A x.kids.length c) ∧ SliceV x.sv)
    (HC : Hid (∀ x ∈ kids, ∀ w', Below w.heap.size w w' → Calls Tryz.prog 37 #[exVal x, .pointer (some ⟨B, 0, none⟩)] w' (RightPost (p x) w'))) :
    Calls Tryz.prog 61 #[.slice A kids.length c, .func (.func 37) #[] #[.pointer (some ⟨B, 0, none⟩)]] w (IdxPost (kids.any p) w) := by
  obtain ⟨_, _, _, _, hm⟩ := hv.slice
  unfold maxLen at hm
  have HV := Lib.hid hv
  have HK := Lib.hid hk
  clear hv hk
  go_enter Tryz.func61, Tryz.ntmps61
  go_wp2_with fail
  go_loopw [8] (fun i wr => ∃ n : Nat, i = .int .i64 n ∧ n ≤ kids.length ∧ Hid ((kids.take n).any p = false) ∧ Below w.heap.size w wr) (fun i _ => kids.length - (intOf i).toNat)
  case atStart => exact ⟨0, rfl, Nat.zero_le _, rfl, Below.refl _ _⟩
  case round =>
    obtain ⟨n, rfl, hn, HA, hb⟩ := hrel
    by_cases hlt : n < kids.length
    · rcases HV.out with ⟨_, h0⟩ | ⟨b, off, c', e, _, hbl, hat, _⟩
      · rw [h0] at hlt; simp at hlt
      · injection e with e1 e2 e3
        subst e1 e3
        obtain ⟨x0, x1, x2, x3, x4, x5, x6, x7, x8, x9, x10⟩ := (hat.block (hb.block b hbl)).ex n hlt
        have HP : Hid (p kids[n] = true → kids.any p = true) := fun hp => anyx_hit hlt hp
        have HN : Hid (p kids[n] = false → (kids.take (n + 1)).any p = false) := fun hp => anyx_take hlt HA.out hp
        obtain ⟨⟨Ak, ck, hkv⟩, ⟨As, ns, cs, hsv⟩⟩ := HK.out kids[n] (List.getElem_mem hlt)
        have HC1 := Lib.hid (HC.out kids[n] (List.getElem_mem hlt) wr hb)
        have hm9 : (n : Int) + 1 ≤ 9223372036854775807 := by omega
        have hlt' : (n : Int) < kids.length := by omega
        clear hat hn HA
        revert HC1 HP HN hkv hsv x0 x1 x2 x3 x4 x5 x6 x7 x8 x9 x10
        generalize kids[n] = x
        intro x0 x1 x2 x3 x4 x5 x6 x7 x8 x9 x10 HP HN hkv hsv HC1
        rw [hkv] at x9
        rw [hsv] at x10
        have HC2 : Hid (Calls Tryz.prog 37 #[.agg #[.int .i64 x.k, .int .i64 x.t, .bool x.nl, .int .i64 x.lit.k, .int .i64 x.lit.i, .string x.lit.s, .int .i64 x.lv, .int .i64 x.col, .int .i64 x.op, .slice Ak x.kids.length ck, .slice As ns cs], .pointer (some ⟨B, 0, none⟩)] wr (RightPost (p x) wr)) := by
          have h := HC1.out
          unfold exVal at h
          rw [hkv, hsv] at h
          exact h
        clear HC1 hkv hsv
        cases hr : p x
        · rw [hr] at HC2
          have HQ := Lib.hid (HN.out hr)
          clear hr HP HN
          go_wp2_with (go_at_call 37; (with_reducible refine HC2.out.mono ?_); rintro e w7 ⟨rfl, hb7⟩)
          refine ⟨⟨n + 1, by go_num, hlt, HQ, hb.trans (hb7.mono hb.size)⟩, ?_⟩
          simp [intOf]
          try go_num
        · rw [hr] at HC2
          have HQ := Lib.hid (HP.out hr)
          clear hr HP HN
          go_wp2_with (go_at_call 37; (with_reducible refine HC2.out.mono ?_); rintro e w7 ⟨rfl, hb7⟩)
          go_ret
          exact ⟨_, rfl, by rw [HQ.out]; exact decide_eq_true (by omega), hb.trans (hb7.mono hb.size)⟩
    · have HQ : Hid (kids.any p = false) := by
        have := HA.out
        rw [List.take_of_length_le (by omega)] at this
        exact this
      clear HA
      go_wp2_with fail
      go_ret
      exact ⟨_, rfl, by rw [HQ.out]; rfl, hb⟩

set_option maxRecDepth 100000 in
set_option maxHeartbeats 8000000 in
theorem contE_any (kids : List Ex) (p : Ex → Bool) (A : Option Addr) (c B : Nat) (w : World) (hv : ExsV w (.slice A kids.length c) kids) (hk : ∀ x ∈ kids, (∃ A c, x.kv = .slice A x.kids.length c) ∧ SliceV x.sv)
    (HC : Hid (∀ x ∈ kids, ∀ w', Below w.heap.size w w' → Calls Tryz.prog 37 #[exVal x, .pointer (some ⟨B, 0, none⟩)] w' (RightPost (p x) w'))) :
    Calls Tryz.prog 36 #[.slice A kids.length c, .func (.func 37) #[] #[.pointer (some ⟨B, 0, none⟩)]] w (RightPost (kids.any p) w) := by
  have HI := Lib.hid (idxE_any kids p A c B w hv hk HC)
  clear hv hk HC
  go_enter Tryz.func36, Tryz.ntmps36
  go_wp2_with (go_at_call 61; (with_reducible refine HI.out.mono ?_); rintro e w7 ⟨z, rfl, hz, hb7⟩)
  go_ret
  exact ⟨by rw [← hz]; rfl, hb7⟩

set_option maxRecDepth 100000 in
set_option maxHeartbeats 8000000 in
theorem cloD_any (k i : Int) (s : ByteArray) (w : World) (hT : Tabs w) : Calls Tryz.prog 40 #[.agg #[.int .i64 k, .int .i64 i, .string s]] w (RightPost (!(rightD ⟨k, i, s⟩)) w) := by
  have hb1 := (Below.refl w.heap.size w).alloc (Nat.le_refl _) (.cells #[.int .i64 k, .int .i64 i, .string s] 27)
  have HR := Lib.hid (right_any k i s _ (hT.below hb1))
  clear hT
  go_enter Tryz.func40, Tryz.ntmps40
  go_wp2_with (go_at_call 27; (with_reducible refine HR.out.mono ?_); rintro e w5 ⟨rfl, hb5⟩)
  go_ret
  exact ⟨rfl, hb1.trans (hb5.mono hb1.size)⟩

set_option maxRecDepth 100000 in
set_option maxHeartbeats 8000000 in
theorem idxD_any (L : List Dat) (v : Value) (w : World) (hv : DatV w v L) (hT : Tabs w) :
    Calls Tryz.prog 62 #[v, .func (.func 40) #[] #[]] w (IdxPost (L.any fun d => !(rightD d)) w) := by
  obtain ⟨A, c, rfl, hc, hm⟩ := hv.len
  unfold maxLen at hm
  have HV := Lib.hid hv
  have HC := Lib.hid (fun (d : Dat) w' (hb : Below w.heap.size w w') => cloD_any d.k d.i d.s w' (hT.below hb))
  clear hv hT
  go_enter Tryz.func62, Tryz.ntmps62
  go_wp2_with fail
  go_loopw [8] (fun i wr => ∃ n : Nat, i = .int .i64 n ∧ n ≤ L.length ∧ Hid ((L.take n).any (fun d => !(rightD d)) = false) ∧ Below w.heap.size w wr) (fun i _ => L.length - (intOf i).toNat)
  case atStart => exact ⟨0, rfl, Nat.zero_le _, rfl, Below.refl _ _⟩
  case round =>
    obtain ⟨n, rfl, hn, HA, hb⟩ := hrel
    by_cases hlt : n < L.length
    · rcases HV.out with ⟨_, h0⟩ | ⟨b, off, c', e, _, hbl, hat, _⟩
      · rw [h0] at hlt; simp at hlt
      · injection e with e1 e2 e3
        subst e1 e3
        obtain ⟨x0, x1, x2⟩ := (hat.block (hb.block b hbl)).dat n hlt
        have HP : Hid (rightD L[n] = false → L.any (fun d => !(rightD d)) = true) := fun hp => anyd_hit hlt (by simpa using hp)
        have HN : Hid (rightD L[n] = true → (L.take (n + 1)).any (fun d => !(rightD d)) = false) := fun hp => anyd_take hlt HA.out (by simpa using hp)
        have HC1 := Lib.hid (HC.out L[n] wr hb)
        have hm9 : (n : Int) + 1 ≤ 9223372036854775807 := by omega
        have hlt' : (n : Int) < L.length := by omega
        clear hat hn HA
        revert HC1 HP HN x0 x1 x2
        generalize L[n] = d
        obtain ⟨dk, di, ds⟩ := d
        intro x0 x1 x2 HP HN HC1
        simp only at x0 x1 x2 HC1
        cases hr : rightD ⟨dk, di, ds⟩
        · rw [hr] at HC1
          have HQ := Lib.hid (HP.out hr)
          clear hr HP HN
          go_wp2_with (go_at_call 40; (with_reducible refine HC1.out.mono ?_); rintro e w7 ⟨rfl, hb7⟩)
          go_ret
          exact ⟨_, rfl, by rw [HQ.out]; exact decide_eq_true (by omega), hb.trans (hb7.mono hb.size)⟩
        · rw [hr] at HC1
          have HQ := Lib.hid (HN.out hr)
          clear hr HP HN
          go_wp2_with (go_at_call 40; (with_reducible refine HC1.out.mono ?_); rintro e w7 ⟨rfl, hb7⟩)
          refine ⟨⟨n + 1, by go_num, hlt, HQ, hb.trans (hb7.mono hb.size)⟩, ?_⟩
          simp [intOf]
          try go_num
    · have HQ : Hid (L.any (fun d => !(rightD d)) = false) := by
        have := HA.out
        rw [List.take_of_length_le (by omega)] at this
        exact this
      clear HA
      go_wp2_with fail
      go_ret
      exact ⟨_, rfl, by rw [HQ.out]; rfl, hb⟩

set_option maxRecDepth 100000 in
set_option maxHeartbeats 8000000 in
theorem contD_any (L : List Dat) (v : Value) (w : World) (hv : DatV w v L) (hT : Tabs w) :
    Calls Tryz.prog 39 #[v, .func (.func 40) #[] #[]] w (RightPost (L.any fun d => !(rightD d)) w) := by
  have HI := Lib.hid (idxD_any L v w hv hT)
  obtain ⟨A, c, rfl, hc, hm⟩ := hv.len
  clear hv hT
  go_enter Tryz.func39, Tryz.ntmps39
  go_wp2_with (go_at_call 62; (with_reducible refine HI.out.mono ?_); rintro e w7 ⟨z, rfl, hz, hb7⟩)
  go_ret
  exact ⟨by rw [← hz]; rfl, hb7⟩

set_option maxRecDepth 100000 in
set_option maxHeartbeats 8000000 in
theorem allRight_any (L : List Dat) (v : Value) (w : World) (hv : DatV w v L) (hT : Tabs w) :
    Calls Tryz.prog 17 #[v] w (RightPost (L.all rightD) w) := by
  have HI := Lib.hid (contD_any L v w hv hT)
  obtain ⟨A, c, rfl, hc, hm⟩ := hv.len
  have HQ : Hid ((!(L.any fun d => !(rightD d))) = L.all rightD) := by
    unfold Hid
    rw [Bool.eq_iff_iff]
    simp
  clear hv hT
  go_enter Tryz.func17, Tryz.ntmps17
  go_wp2_with (go_at_call 39; (with_reducible refine HI.out.mono ?_); rintro e w7 ⟨rfl, hb7⟩)
  go_ret
  exact ⟨by rw [← HQ.out]; rfl, hb7⟩

end Go.Proofs.YtippffjhkinfoaaGreatDoor

namespace Go.Proofs.YtippffjhkinfoaaGreatDoor
open Go.RowKit

set_option maxRecDepth 100000 in
set_option maxHeartbeats 8000000 in
theorem mayBe_lit (t : Int) (nl : Bool) (lit : Dat) (lv col op : Int) (A sA : Option Addr) (n c sn sc : Nat) (vE : Value) (hvE : SliceV vE) (w : World) (hT : Tabs w) :
    Calls Tryz.prog 16 #[.agg #[.int .i64 1, .int .i64 t, .bool nl, .int .i64 lit.k, .int .i64 lit.i, .string lit.s, .int .i64 lv, .int .i64 col, .int .i64 op, .slice A n c, .slice sA sn sc], vE] w (RightPost (rightD lit) w) := by
  obtain ⟨Ae, ne, ce, rfl⟩ := hvE
  have hb1 := (Below.refl w.heap.size w).alloc (Nat.le_refl _) (.cells #[.int .i64 1, .int .i64 t, .bool nl, .int .i64 lit.k, .int .i64 lit.i, .string lit.s, .int .i64 lv, .int .i64 col, .int .i64 op, .slice A n c, .slice sA sn sc] 30)
  have hb2 := hb1.alloc hb1.size (.cells #[.slice Ae ne ce] 23)
  have HR := Lib.hid (right_any lit.k lit.i lit.s _ (hT.below hb2))
  clear hT
  go_enter Tryz.func16, Tryz.ntmps16
  go_wp2_with (go_at_call 27; (with_reducible refine HR.out.mono ?_); rintro e w5 ⟨rfl, hb5⟩)
  go_ret
  exact ⟨rfl, hb2.trans (hb5.mono hb2.size)⟩

set_option maxRecDepth 100000 in
set_option maxHeartbeats 8000000 in
theorem mayBe_other (k : Int) (t : Int) (nl : Bool) (lit : Dat) (lv col op : Int) (A sA : Option Addr) (n c sn sc : Nat) (vE : Value) (hvE : SliceV vE) (h1 : k ≠ 1) (h2 : k ≠ 2) (h3 : k ≠ 3) (w : World) :
    Calls Tryz.prog 16 #[.agg #[.int .i64 k, .int .i64 t, .bool nl, .int .i64 lit.k, .int .i64 lit.i, .string lit.s, .int .i64 lv, .int .i64 col, .int .i64 op, .slice A n c, .slice sA sn sc], vE] w (RightPost (subB k) w) := by
  obtain ⟨Ae, ne, ce, rfl⟩ := hvE
  have e1 : (k == 1) = false := beq_eq_false_iff_ne.2 h1
  have e2 : (k == 2) = false := beq_eq_false_iff_ne.2 h2
  have e3 : (k == 3) = false := beq_eq_false_iff_ne.2 h3
  have hb1 := (Below.refl w.heap.size w).alloc (Nat.le_refl _) (.cells #[.int .i64 k, .int .i64 t, .bool nl, .int .i64 lit.k, .int .i64 lit.i, .string lit.s, .int .i64 lv, .int .i64 col, .int .i64 op, .slice A n c, .slice sA sn sc] 30)
  have hb2 := hb1.alloc hb1.size (.cells #[.slice Ae ne ce] 23)
  have HR := Lib.hid (fun w => isSub_any k t nl lit lv col op A sA n c sn sc w)
  clear h1 h2 h3
  go_enter Tryz.func16, Tryz.ntmps16
  go_wp2_with (go_at_call 38; (with_reducible refine (HR.out _).mono ?_); rintro e w5 ⟨rfl, hb5⟩)
  go_ret
  exact ⟨rfl, hb2.trans (hb5.mono hb2.size)⟩

set_option maxRecDepth 100000 in
set_option maxHeartbeats 8000000 in
theorem mayBe_call (t : Int) (nl : Bool) (lit : Dat) (lv col op : Int) (A sA : Option Addr) (n c sn sc : Nat) (vE : Value) (hvE : SliceV vE) (b : Bool) (w : World) (hT : Tabs w) (hm : (n : Int) ≤ 9223372036854775807)
    (HC : Hid (∀ w5, Below w.heap.size w w5 → Blk w5 (w.heap.size + 1) #[vE] 23 → Calls Tryz.prog 36 #[.slice A n c, .func (.func 37) #[] #[.pointer (some ⟨w.heap.size + 1, 0, none⟩)]] w5 (RightPost b w5))) :
    Calls Tryz.prog 16 #[.agg #[.int .i64 3, .int .i64 t, .bool nl, .int .i64 lit.k, .int .i64 lit.i, .string lit.s, .int .i64 lv, .int .i64 col, .int .i64 op, .slice A n c, .slice sA sn sc], vE] w (RightPost (manyX op n && !b) w) := by
  obtain ⟨Ae, ne, ce, rfl⟩ := hvE
  have hb1 := (Below.refl w.heap.size w).alloc (Nat.le_refl _) (.cells #[.int .i64 3, .int .i64 t, .bool nl, .int .i64 lit.k, .int .i64 lit.i, .string lit.s, .int .i64 lv, .int .i64 col, .int .i64 op, .slice A n c, .slice sA sn sc] 30)
  have hb2 := hb1.alloc hb1.size (.cells #[.slice Ae ne ce] 23)
  have bX := (Blk.new w #[.int .i64 3, .int .i64 t, .bool nl, .int .i64 lit.k, .int .i64 lit.i, .string lit.s, .int .i64 lv, .int .i64 col, .int .i64 op, .slice A n c, .slice sA sn sc] 30).alloc (.cells #[.slice Ae ne ce] 23)
  have bE := Blk.new (w.alloc (.cells #[.int .i64 3, .int .i64 t, .bool nl, .int .i64 lit.k, .int .i64 lit.i, .string lit.s, .int .i64 lv, .int .i64 col, .int .i64 op, .slice A n c, .slice sA sn sc] 30)) #[.slice Ae ne ce] 23
  rw [show (w.alloc (.cells #[.int .i64 3, .int .i64 t, .bool nl, .int .i64 lit.k, .int .i64 lit.i, .string lit.s, .int .i64 lv, .int .i64 col, .int .i64 op, .slice A n c, .slice sA sn sc] 30)).heap.size = w.heap.size + 1 by simp] at bE
  have HT := Lib.hid (takes_any op n _ (hT.below hb2) hm)
  clear hT
  cases hM : manyX op n
  · rw [hM] at HT
    clear hM
    go_enter Tryz.func16, Tryz.ntmps16
    go_wp2_with (go_at_call 35; (with_reducible refine HT.out.mono ?_); rintro e w5 ⟨rfl, hb5⟩)
    go_ret
    exact ⟨rfl, hb2.trans (hb5.mono hb2.size)⟩
  · rw [hM] at HT
    clear hM
    go_enter Tryz.func16, Tryz.ntmps16
    go_wp2_with (first
      | (go_at_call 35; (with_reducible refine HT.out.mono ?_); rintro e w5 ⟨rfl, hb5⟩; have h5 := hb2.trans (hb5.mono hb2.size); have bX5 := bX.below hb5; have bE5 := bE.below hb5; have HC5 := Lib.hid (HC.out w5 h5 bE5); have y9 := bX5.cell 9; simp only [List.getElem?_toArray, List.getElem?_cons_zero, List.getElem?_cons_succ] at y9)
      | (go_at_call 36; (with_reducible refine HC5.out.mono ?_); rintro e w6 ⟨rfl, hb6⟩))
    go_ret
    exact ⟨by rw [Bool.true_and]; rfl, h5.trans (hb6.mono h5.size)⟩

theorem colB_eq (lv col : Int) (env : Env) : (match colX lv col env with | some d => rightD d | none => false) = ((colX lv col env).isSome && match colX lv col env with | some d => rightD d | none => false) := by
  cases colX lv col env <;> rfl

set_option maxRecDepth 100000 in
set_option maxHeartbeats 8000000 in
theorem mayBe_col (t : Int) (nl : Bool) (lit : Dat) (lv col op : Int) (A sA : Option Addr) (n c sn sc : Nat) (vE : Value) (env : Env) (w : World) (hE : EnvV w vE env) (hT : Tabs w) :
    Calls Tryz.prog 16 #[.agg #[.int .i64 2, .int .i64 t, .bool nl, .int .i64 lit.k, .int .i64 lit.i, .string lit.s, .int .i64 lv, .int .i64 col, .int .i64 op, .slice A n c, .slice sA sn sc], vE] w (RightPost (match colX lv col env with | some d => rightD d | none => false) w) := by
  obtain ⟨Ae, ce, rfl, hce, hme⟩ := hE.slice
  have hb1 := (Below.refl w.heap.size w).alloc (Nat.le_refl _) (.cells #[.int .i64 2, .int .i64 t, .bool nl, .int .i64 lit.k, .int .i64 lit.i, .string lit.s, .int .i64 lv, .int .i64 col, .int .i64 op, .slice A n c, .slice sA sn sc] 30)
  have hb2 := hb1.alloc hb1.size (.cells #[.slice Ae env.length ce] 23)
  have bX := (Blk.new w #[.int .i64 2, .int .i64 t, .bool nl, .int .i64 lit.k, .int .i64 lit.i, .string lit.s, .int .i64 lv, .int .i64 col, .int .i64 op, .slice A n c, .slice sA sn sc] 30).alloc (.cells #[.slice Ae env.length ce] 23)
  have bE := Blk.new (w.alloc (.cells #[.int .i64 2, .int .i64 t, .bool nl, .int .i64 lit.k, .int .i64 lit.i, .string lit.s, .int .i64 lv, .int .i64 col, .int .i64 op, .slice A n c, .slice sA sn sc] 30)) #[.slice Ae env.length ce] 23
  rw [show (w.alloc (.cells #[.int .i64 2, .int .i64 t, .bool nl, .int .i64 lit.k, .int .i64 lit.i, .string lit.s, .int .i64 lv, .int .i64 col, .int .i64 op, .slice A n c, .slice sA sn sc] 30)).heap.size = w.heap.size + 1 by simp] at bE
  obtain ⟨W, hW⟩ : ∃ W, (w.alloc (.cells #[.int .i64 2, .int .i64 t, .bool nl, .int .i64 lit.k, .int .i64 lit.i, .string lit.s, .int .i64 lv, .int .i64 col, .int .i64 op, .slice A n c, .slice sA sn sc] 30)).alloc (.cells #[.slice Ae env.length ce] 23) = W := ⟨_, rfl⟩
  rw [hW] at hb2 bX bE
  have y0 := bX.cell 0
  have y1 := bX.cell 1
  have y2 := bX.cell 2
  have y3 := bX.cell 3
  have y4 := bX.cell 4
  have y5 := bX.cell 5
  have y6 := bX.cell 6
  have y7 := bX.cell 7
  have y8 := bX.cell 8
  have y9 := bX.cell 9
  have y10 := bX.cell 10
  have ye := bE.cell 0
  simp only [List.getElem?_toArray, List.getElem?_cons_zero, List.getElem?_cons_succ] at y0 y1 y2 y3 y4 y5 y6 y7 y8 y9 y10 ye
  have k0 := fun n : Kept W => n.cell y0
  have k1 := fun n : Kept W => n.cell y1
  have k2 := fun n : Kept W => n.cell y2
  have k3 := fun n : Kept W => n.cell y3
  have k4 := fun n : Kept W => n.cell y4
  have k5 := fun n : Kept W => n.cell y5
  have k6 := fun n : Kept W => n.cell y6
  have k7 := fun n : Kept W => n.cell y7
  have k8 := fun n : Kept W => n.cell y8
  have k9 := fun n : Kept W => n.cell y9
  have k10 := fun n : Kept W => n.cell y10
  have ke := fun n : Kept W => n.cell ye
  have HH : Hid (∀ m : Kept W, Calls Tryz.prog 34 #[.agg #[.int .i64 2, .int .i64 t, .bool nl, .int .i64 lit.k, .int .i64 lit.i, .string lit.s, .int .i64 lv, .int .i64 col, .int .i64 op, .slice A n c, .slice sA sn sc], .slice Ae env.length ce] m.w (fun e w' => e = .returned (.bool (colX lv col env).isSome) ∧ Below m.w.heap.size m.w w')) := fun m => isThere_any 2 t nl lit lv col op A sA n c sn sc _ env m.w ((hE.below hb2).below m.h)
  have hTW := hT.below hb2
  have HW := Lib.hid hW
  clear y0 y1 y2 y3 y4 y5 y6 y7 y8 y9 y10 ye hW hT
  cases hc : colX lv col env with
  | none =>
    rw [hc] at HH
    simp only [Option.isSome_none] at HH ⊢
    clear hc hE bX bE hTW
    go_enter Tryz.func16, Tryz.ntmps16
    go_wp2_with fail
    rw [HW.out]
    refine wp_region_kept (by kernel_rfl) (by kernel_rfl) ?_
    repeat (go_big_quiet_step ((go_at_call 34; (with_reducible exact Calls.kept (HH.out _)))))
    refine wpQuiet_nil ?_
    intro wk hw'
    obtain ⟨⟨wq, hwq⟩, hw''⟩ := hw'
    simp only at hw''
    subst hw''
    have h9 := hb2.trans (hwq.mono hb2.size)
    go_wp2_with fail
    go_ret
    exact ⟨rfl, h9⟩
  | some d =>
    rw [hc] at HH
    simp only [Option.isSome_some] at HH ⊢
    obtain ⟨i, j, rfl, rfl, hi, hj, rfl⟩ : ∃ i j : Nat, lv = i ∧ col = j ∧ ∃ (hi : i < env.length) (hj : j < env[i].l.length), d = env[i].l[j] := by
      unfold colX at hc
      split at hc
      · rename_i hs
        cases he : env[lv.toNat]? with
        | none => rw [he] at hc; cases hc
        | some r =>
          rw [he] at hc
          simp only [Option.bind_some] at hc
          obtain ⟨hi, hr⟩ := List.getElem?_eq_some_iff.mp he
          obtain ⟨hj, hq⟩ := List.getElem?_eq_some_iff.mp hc
          subst hr
          exact ⟨lv.toNat, col.toNat, by omega, by omega, hi, hj, hq.symm⟩
      · cases hc
    have hi' : (i : Int) < env.length := by omega
    have hi0 : (0 : Int) ≤ i := by omega
    have hj' : (j : Int) < env[i].l.length := by omega
    have hj0 : (0 : Int) ≤ j := by omega
    obtain ⟨b, off, B, m, rfl, hbl, hcell, hrow⟩ := hE.row i hi
    have hcell1 := (hb2.cell (p := ⟨b, off + i, none⟩) hbl).trans hcell
    obtain ⟨b2, off2, rfl, hbl2, x0, x1, x2⟩ := DatV.nth hrow j hj
    have z0 := (hb2.cell (p := ⟨b2, off2 + j * 3, none⟩) hbl2).trans x0
    have z1 := (hb2.cell (p := ⟨b2, off2 + j * 3 + 1, none⟩) hbl2).trans x1
    have z2 := (hb2.cell (p := ⟨b2, off2 + j * 3 + 2, none⟩) hbl2).trans x2
    have HR : Hid (∀ m : Kept W, Calls Tryz.prog 27 #[.agg #[.int .i64 env[i].l[j].k, .int .i64 env[i].l[j].i, .string env[i].l[j].s]] m.w (fun e w' => e = .returned (.bool (rightD env[i].l[j])) ∧ Below m.w.heap.size m.w w')) := fun m => right_any _ _ _ m.w (hTW.below m.h)
    clear hE hrow hc x0 x1 x2 hcell bX bE hTW
    have k11 := fun n : Kept W => n.cell hcell1
    have k12 := fun n : Kept W => n.cell z0
    have k13 := fun n : Kept W => n.cell z1
    have k14 := fun n : Kept W => n.cell z2
    clear hcell1 z0 z1 z2
    revert HR k11 k12 k13 k14 hj'
    generalize env[i].l[j] = d
    generalize env[i].l.length = rl
    intro hj' HR k11 k12 k13 k14
    clear hj
    go_enter Tryz.func16, Tryz.ntmps16
    go_wp2_with fail
    rw [HW.out]
    refine wp_region_kept (by kernel_rfl) (by kernel_rfl) ?_
    repeat (go_big_quiet_step ((first | (go_at_call 34; (with_reducible exact Calls.kept (HH.out _))) | (go_at_call 27; (with_reducible exact Calls.kept (HR.out _))))))
    refine wpQuiet_nil ?_
    intro wk hw'
    obtain ⟨⟨wq, hwq⟩, hw''⟩ := hw'
    simp only at hw''
    subst hw''
    have h9 := hb2.trans (hwq.mono hb2.size)
    go_wp2_with fail
    go_ret
    exact ⟨rfl, h9⟩

set_option maxRecDepth 100000 in
set_option maxHeartbeats 8000000 in
theorem clo_any (k : Int) (t : Int) (nl : Bool) (lit : Dat) (lv col op : Int) (A sA : Option Addr) (n c sn sc : Nat) (vE : Value) (hvE : SliceV vE) (B : Nat) (b : Bool) (w : World) (hB : Blk w B #[vE] 23)
    (HC : Hid (∀ w', Below w.heap.size w w' → Calls Tryz.prog 16 #[.agg #[.int .i64 k, .int .i64 t, .bool nl, .int .i64 lit.k, .int .i64 lit.i, .string lit.s, .int .i64 lv, .int .i64 col, .int .i64 op, .slice A n c, .slice sA sn sc], vE] w' (RightPost b w'))) :
    Calls Tryz.prog 37 #[.agg #[.int .i64 k, .int .i64 t, .bool nl, .int .i64 lit.k, .int .i64 lit.i, .string lit.s, .int .i64 lv, .int .i64 col, .int .i64 op, .slice A n c, .slice sA sn sc], .pointer (some ⟨B, 0, none⟩)] w (RightPost (!b) w) := by
  obtain ⟨Ae, ne, ce, rfl⟩ := hvE
  have hb1 := (Below.refl w.heap.size w).alloc (Nat.le_refl _) (.cells #[.int .i64 k, .int .i64 t, .bool nl, .int .i64 lit.k, .int .i64 lit.i, .string lit.s, .int .i64 lv, .int .i64 col, .int .i64 op, .slice A n c, .slice sA sn sc] 30)
  have yB := (hB.alloc (.cells #[.int .i64 k, .int .i64 t, .bool nl, .int .i64 lit.k, .int .i64 lit.i, .string lit.s, .int .i64 lv, .int .i64 col, .int .i64 op, .slice A n c, .slice sA sn sc] 30)).cell 0
  simp only [List.getElem?_toArray, List.getElem?_cons_zero] at yB
  have HC1 := Lib.hid (HC.out _ hb1)
  have hlt := hB.lt
  have hne : B ≠ w.heap.size := by omega
  clear hB HC
  go_enter Tryz.func37, Tryz.ntmps37
  go_wp2_with (go_at_call 16; (with_reducible refine HC1.out.mono ?_); rintro e w5 ⟨rfl, hb5⟩)
  go_ret
  exact ⟨rfl, hb1.trans (hb5.mono hb1.size)⟩

/-- mayBe. -/
theorem mayBe_any {w0 : World} {e : Ex} (h : ExOk w0 e) (env : Env) (vE : Value) (hE : EnvV w0 vE env) (hT : Tabs w0) : ∀ w : World, Below w0.heap.size w0 w → Calls Tryz.prog 16 #[exVal e, vE] w (RightPost (rightX env e) w) := by
  induction h with
  | mk e hv hs hk ih =>
    intro w hb0
    have hvE : SliceV vE := by obtain ⟨A, c, rfl, _, _⟩ := hE.slice; exact ⟨_, _, _, rfl⟩
    obtain ⟨sA, sn, sc, hsv⟩ := hs
    obtain ⟨A, c, hkv, hc, hm⟩ := hv.slice
    rw [rightX_eq]
    obtain ⟨k, t, nl, lit, lv, col, op, kv, sv, kids⟩ := e
    simp only at hsv hkv ih hv hk hc hm ⊢
    subst hsv hkv
    by_cases h1 : k = 1
    · subst h1
      rw [if_pos rfl]
      exact mayBe_lit t nl lit lv col op A sA kids.length c sn sc vE hvE w (hT.below hb0)
    · rw [if_neg h1]
      by_cases h2 : k = 2
      · subst h2
        rw [if_pos rfl]
        exact mayBe_col t nl lit lv col op A sA kids.length c sn sc vE env w (hE.below hb0) (hT.below hb0)
      · rw [if_neg h2]
        by_cases h3 : k = 3
        · subst h3
          rw [if_pos rfl, rightXs_all]
          have hq : (kids.all (rightX env) && manyX op kids.length) = (manyX op kids.length && !(kids.any fun x => !(rightX env x))) := by
            rw [Bool.and_comm]
            congr 1
            rw [Bool.eq_iff_iff]
            simp
          rw [hq]
          refine mayBe_call t nl lit lv col op A sA kids.length c sn sc vE hvE _ w (hT.below hb0) (by unfold maxLen at hm; omega) fun w5 hb5 bE => ?_
          have hb05 := hb0.trans (hb5.mono hb0.size)
          refine contE_any kids (fun x => !(rightX env x)) A c _ w5 (hv.below hb05) (fun x hx => ⟨?_, (hk x hx).sv⟩) fun x hx w' hb' => ?_
          · obtain ⟨A, c, h, _, _⟩ := (hk x hx).kv.slice
            exact ⟨A, c, h⟩
          · have hI := fun w2 (hb2 : Below w'.heap.size w' w2) => ih x hx w2 (hb05.trans ((hb'.trans (hb2.mono hb'.size)).mono hb05.size))
            have bB := bE.below hb'
            obtain ⟨A2, c2, hkv, _, _⟩ := (hk x hx).kv.slice
            obtain ⟨s2, n2, m2, hsv⟩ := (hk x hx).sv
            clear hx ih hk
            obtain ⟨k, t, nl, lit, lv, col, op, kv, sv, kk⟩ := x
            simp only at hkv hsv
            subst hkv hsv
            exact clo_any k t nl lit lv col op A2 s2 kk.length c2 n2 m2 vE hvE _ _ w' bB hI
        · rw [if_neg h3]
          exact mayBe_other k t nl lit lv col op A sA kids.length c sn sc vE hvE h1 h2 h3 w

end Go.Proofs.YtippffjhkinfoaaGreatDoor

namespace Go.Proofs.YtippffjhkinfoaaGreatDoor
open Go.RowKit

/-- A number comes back; memory of the call's own alone is made. -/
def CntPost (n : Nat) (w : World) (e : Ending) (w' : World) : Prop := e = .returned (.int .i64 n) ∧ Below w.heap.size w w'
theorem subsX_low {x : Ex} (h : x.k = 1 ∨ x.k = 2) : subsX x = [] := by rw [subsX_eq, if_neg (by omega), if_neg (by omega)]
theorem subsX_mid {x : Ex} (h : x.k = 3) : subsX x = subsXs x.kids := by rw [subsX_eq, if_neg (by omega), if_pos h]
theorem subsX_top {x : Ex} (h : 4 ≤ x.k) : subsX x = [x] := by rw [subsX_eq, if_pos h]

theorem right_kind {env : Env} {x : Ex} (h : rightX env x = true) : 1 ≤ x.k ∧ x.k ≤ 6 := by
  rw [rightX_eq] at h
  split at h
  · omega
  · split at h
    · omega
    · split at h
      · omega
      · have := of_decide_eq_true h
        omega
theorem subs_mem : ∀ {L : List Ex} {x : Ex}, x ∈ L → x.k = 3 → (subsXs x.kids).length ≤ (subsXs L).length
  | [], x, h, _ => by cases h
  | e :: l, x, h, h3 => by
    rw [subsXs_cons, List.length_append]
    rcases List.mem_cons.1 h with rfl | h
    · rw [subsX_mid h3]; omega
    · have := subs_mem h h3
      omega

set_option maxRecDepth 100000 in
set_option maxHeartbeats 8000000 in
theorem subq_list {w0 w : World} (L : List Ex) (v : Value) (hb0 : Below w0.heap.size w0 w) (hv : ExsV w v L) (hk : ∀ x ∈ L, ExOk w0 x) (hr : ∀ x ∈ L, 1 ≤ x.k ∧ x.k ≤ 6) (hl : (subsXs L).length ≤ 9223372036854775807)
    (IH : Hid (∀ x ∈ L, x.k = 3 → ∀ w', Below w0.heap.size w0 w' → Calls Tryz.prog 18 #[x.kv] w' (CntPost (subsXs x.kids).length w'))) :
    Calls Tryz.prog 18 #[v] w (CntPost (subsXs L).length w) := by
  obtain ⟨A, c, rfl, hc, hm⟩ := hv.slice
  unfold maxLen at hm
  have HV := Lib.hid hv
  have HK := Lib.hid hk
  have HR := Lib.hid hr
  have HL := Lib.hid hl
  clear hv hk hr hl
  go_enter Tryz.func18, Tryz.ntmps18
  go_wp2_with fail
  go_loopw [3, 8] (fun s i wr => ∃ j : Nat, i = .int .i64 j ∧ j ≤ L.length ∧ s = .int .i64 ((subsXs (L.take j)).length : Int) ∧ Below w.heap.size w wr) (fun _ i _ => L.length - (intOf i).toNat)
  case atStart => exact ⟨0, rfl, Nat.zero_le _, by rw [List.take_zero, subsXs_nil]; rfl, Below.refl _ _⟩
  case round =>
    obtain ⟨j, rfl, hj, rfl, hb⟩ := hrel
    by_cases hlt : j < L.length
    · rcases HV.out with ⟨_, h0⟩ | ⟨b, off, c', e, _, hbl, hat, _⟩
      · rw [h0] at hlt; simp at hlt
      · injection e with e1 e2 e3
        subst e1 e3
        obtain ⟨x0, x1, x2, x3, x4, x5, x6, x7, x8, x9, x10⟩ := (hat.block (hb.block b hbl)).ex j hlt
        have hle0 := subsXs_le L (j + 1)
        have hT := congrArg List.length (subsXs_take L j hlt)
        rw [List.length_append] at hT
        rw [hT] at hle0
        have hle1 := HL.out
        have HT := Lib.hid hT
        have HOK := HK.out L[j] (List.getElem_mem hlt)
        have hkk := HR.out L[j] (List.getElem_mem hlt)
        obtain ⟨Ak, ck, hkv, _, _⟩ := HOK.kv.slice
        obtain ⟨As, ns, cs, hsv⟩ := HOK.sv
        have HI := Lib.hid (IH.out L[j] (List.getElem_mem hlt))
        have hbw := hb0.trans (hb.mono hb0.size)
        have hj9 : (j : Int) + 1 ≤ 9223372036854775807 := by omega
        have hlt' : (j : Int) < L.length := by omega
        have hs9 : ((subsXs (L.take j)).length : Int) + (subsX L[j]).length ≤ 9223372036854775807 := by omega
        have hs0 : (-9223372036854775808 : Int) ≤ ((subsXs (L.take j)).length : Int) + (subsX L[j]).length := by omega
        clear hat hle0 hle1 hT HOK hj
        revert HT HI hkk hkv hsv x0 x1 x2 x3 x4 x5 x6 x7 x8 x9 x10 hs9 hs0
        generalize (subsXs (L.take j)).length = a
        generalize L[j] = x
        intro x0 x1 x2 x3 x4 x5 x6 x7 x8 x9 x10 HT hkk hkv hsv HI hs9 hs0
        rw [hkv] at x9
        rw [hsv] at x10
        have hcase : x.k = 1 ∨ x.k = 2 ∨ x.k = 3 ∨ x.k = 4 ∨ x.k = 5 ∨ x.k = 6 := by omega
        clear hkk
        rcases hcase with hk | hk | hk | hk | hk | hk
        · rw [subsX_low (.inl hk)] at HT hs9 hs0
          rw [hk] at x0
          simp only [List.length_nil, Int.ofNat_zero] at HT hs9 hs0
          have HS : Hid (∀ w, Calls Tryz.prog 38 #[.agg #[.int .i64 1, .int .i64 x.t, .bool x.nl, .int .i64 x.lit.k, .int .i64 x.lit.i, .string x.lit.s, .int .i64 x.lv, .int .i64 x.col, .int .i64 x.op, .slice Ak x.kids.length ck, .slice As ns cs]] w (RightPost false w)) := fun w => by
            have h := isSub_any 1 x.t x.nl x.lit x.lv x.col x.op Ak As x.kids.length ck ns cs w
            rwa [subB_no (by decide)] at h
          have bX := Blk.new wr #[.int .i64 1, .int .i64 x.t, .bool x.nl, .int .i64 x.lit.k, .int .i64 x.lit.i, .string x.lit.s, .int .i64 x.lv, .int .i64 x.col, .int .i64 x.op, .slice Ak x.kids.length ck, .slice As ns cs] 30
          have hbo := hb.alloc hb.size (.cells #[.int .i64 1, .int .i64 x.t, .bool x.nl, .int .i64 x.lit.k, .int .i64 x.lit.i, .string x.lit.s, .int .i64 x.lv, .int .i64 x.col, .int .i64 x.op, .slice Ak x.kids.length ck, .slice As ns cs] 30)
          clear HI hkv hsv hk
          go_wp2_with (go_at_call 38; (with_reducible refine (HS.out _).mono ?_); rintro e w7 ⟨rfl, hb7⟩; have h7 := hbo.trans (hb7.mono hbo.size); have bX7 := bX.below hb7; have y0 := bX7.cell 0; have y9 := bX7.cell 9; simp only [List.getElem?_toArray, List.getElem?_cons_zero, List.getElem?_cons_succ] at y0 y9)
          refine ⟨⟨j + 1, by go_num, hlt, by rw [HT.out]; go_num, h7⟩, ?_⟩
          simp [intOf]
          try go_num
        · rw [subsX_low (.inr hk)] at HT hs9 hs0
          rw [hk] at x0
          simp only [List.length_nil, Int.ofNat_zero] at HT hs9 hs0
          have HS : Hid (∀ w, Calls Tryz.prog 38 #[.agg #[.int .i64 2, .int .i64 x.t, .bool x.nl, .int .i64 x.lit.k, .int .i64 x.lit.i, .string x.lit.s, .int .i64 x.lv, .int .i64 x.col, .int .i64 x.op, .slice Ak x.kids.length ck, .slice As ns cs]] w (RightPost false w)) := fun w => by
            have h := isSub_any 2 x.t x.nl x.lit x.lv x.col x.op Ak As x.kids.length ck ns cs w
            rwa [subB_no (by decide)] at h
          have bX := Blk.new wr #[.int .i64 2, .int .i64 x.t, .bool x.nl, .int .i64 x.lit.k, .int .i64 x.lit.i, .string x.lit.s, .int .i64 x.lv, .int .i64 x.col, .int .i64 x.op, .slice Ak x.kids.length ck, .slice As ns cs] 30
          have hbo := hb.alloc hb.size (.cells #[.int .i64 2, .int .i64 x.t, .bool x.nl, .int .i64 x.lit.k, .int .i64 x.lit.i, .string x.lit.s, .int .i64 x.lv, .int .i64 x.col, .int .i64 x.op, .slice Ak x.kids.length ck, .slice As ns cs] 30)
          clear HI hkv hsv hk
          go_wp2_with (go_at_call 38; (with_reducible refine (HS.out _).mono ?_); rintro e w7 ⟨rfl, hb7⟩; have h7 := hbo.trans (hb7.mono hbo.size); have bX7 := bX.below hb7; have y0 := bX7.cell 0; have y9 := bX7.cell 9; simp only [List.getElem?_toArray, List.getElem?_cons_zero, List.getElem?_cons_succ] at y0 y9)
          refine ⟨⟨j + 1, by go_num, hlt, by rw [HT.out]; go_num, h7⟩, ?_⟩
          simp [intOf]
          try go_num
        · rw [subsX_mid hk] at HT hs9 hs0
          rw [hk] at x0
          have HS : Hid (∀ w, Calls Tryz.prog 38 #[.agg #[.int .i64 3, .int .i64 x.t, .bool x.nl, .int .i64 x.lit.k, .int .i64 x.lit.i, .string x.lit.s, .int .i64 x.lv, .int .i64 x.col, .int .i64 x.op, .slice Ak x.kids.length ck, .slice As ns cs]] w (RightPost false w)) := fun w => by
            have h := isSub_any 3 x.t x.nl x.lit x.lv x.col x.op Ak As x.kids.length ck ns cs w
            rwa [subB_no (by decide)] at h
          have bX := Blk.new wr #[.int .i64 3, .int .i64 x.t, .bool x.nl, .int .i64 x.lit.k, .int .i64 x.lit.i, .string x.lit.s, .int .i64 x.lv, .int .i64 x.col, .int .i64 x.op, .slice Ak x.kids.length ck, .slice As ns cs] 30
          have hbo := hb.alloc hb.size (.cells #[.int .i64 3, .int .i64 x.t, .bool x.nl, .int .i64 x.lit.k, .int .i64 x.lit.i, .string x.lit.s, .int .i64 x.lv, .int .i64 x.col, .int .i64 x.op, .slice Ak x.kids.length ck, .slice As ns cs] 30)
          have HI3 := HI.out hk
          rw [hkv] at HI3
          have HI4 := Lib.hid HI3
          clear HI HI3 hkv hsv hk
          revert HI4 HT hs9 hs0
          generalize (subsXs x.kids).length = q
          intro HT hs9 hs0 HI4
          go_wp2_with (first
            | (go_at_call 38; (with_reducible refine (HS.out _).mono ?_); rintro e w7 ⟨rfl, hb7⟩; have h7 := hbo.trans (hb7.mono hbo.size); have bX7 := bX.below hb7; have y0 := bX7.cell 0; have y9 := bX7.cell 9; simp only [List.getElem?_toArray, List.getElem?_cons_zero, List.getElem?_cons_succ] at y0 y9)
            | (go_at_call 18; (with_reducible refine (HI4.out _ (hb0.trans (h7.mono hb0.size))).mono ?_); rintro e w8 ⟨rfl, hb8⟩; have h8 := h7.trans (hb8.mono h7.size)))
          refine ⟨⟨j + 1, by go_num, hlt, by rw [HT.out]; go_num, h8⟩, ?_⟩
          simp [intOf]
          try go_num
        · rw [subsX_top (by omega)] at HT hs9 hs0
          rw [hk] at x0
          simp only [List.length_nil, List.length_cons, Nat.zero_add, Int.ofNat_one] at HT hs9 hs0
          have HS : Hid (∀ w, Calls Tryz.prog 38 #[.agg #[.int .i64 4, .int .i64 x.t, .bool x.nl, .int .i64 x.lit.k, .int .i64 x.lit.i, .string x.lit.s, .int .i64 x.lv, .int .i64 x.col, .int .i64 x.op, .slice Ak x.kids.length ck, .slice As ns cs]] w (RightPost true w)) := fun w => by
            have h := isSub_any 4 x.t x.nl x.lit x.lv x.col x.op Ak As x.kids.length ck ns cs w
            rwa [subB_yes (by decide)] at h
          have bX := Blk.new wr #[.int .i64 4, .int .i64 x.t, .bool x.nl, .int .i64 x.lit.k, .int .i64 x.lit.i, .string x.lit.s, .int .i64 x.lv, .int .i64 x.col, .int .i64 x.op, .slice Ak x.kids.length ck, .slice As ns cs] 30
          have hbo := hb.alloc hb.size (.cells #[.int .i64 4, .int .i64 x.t, .bool x.nl, .int .i64 x.lit.k, .int .i64 x.lit.i, .string x.lit.s, .int .i64 x.lv, .int .i64 x.col, .int .i64 x.op, .slice Ak x.kids.length ck, .slice As ns cs] 30)
          clear HI hkv hsv hk
          go_wp2_with (go_at_call 38; (with_reducible refine (HS.out _).mono ?_); rintro e w7 ⟨rfl, hb7⟩; have h7 := hbo.trans (hb7.mono hbo.size); have bX7 := bX.below hb7; have y0 := bX7.cell 0; have y9 := bX7.cell 9; simp only [List.getElem?_toArray, List.getElem?_cons_zero, List.getElem?_cons_succ] at y0 y9)
          refine ⟨⟨j + 1, by go_num, hlt, by rw [HT.out]; go_num, h7⟩, ?_⟩
          simp [intOf]
          try go_num
        · rw [subsX_top (by omega)] at HT hs9 hs0
          rw [hk] at x0
          simp only [List.length_nil, List.length_cons, Nat.zero_add, Int.ofNat_one] at HT hs9 hs0
          have HS : Hid (∀ w, Calls Tryz.prog 38 #[.agg #[.int .i64 5, .int .i64 x.t, .bool x.nl, .int .i64 x.lit.k, .int .i64 x.lit.i, .string x.lit.s, .int .i64 x.lv, .int .i64 x.col, .int .i64 x.op, .slice Ak x.kids.length ck, .slice As ns cs]] w (RightPost true w)) := fun w => by
            have h := isSub_any 5 x.t x.nl x.lit x.lv x.col x.op Ak As x.kids.length ck ns cs w
            rwa [subB_yes (by decide)] at h
          have bX := Blk.new wr #[.int .i64 5, .int .i64 x.t, .bool x.nl, .int .i64 x.lit.k, .int .i64 x.lit.i, .string x.lit.s, .int .i64 x.lv, .int .i64 x.col, .int .i64 x.op, .slice Ak x.kids.length ck, .slice As ns cs] 30
          have hbo := hb.alloc hb.size (.cells #[.int .i64 5, .int .i64 x.t, .bool x.nl, .int .i64 x.lit.k, .int .i64 x.lit.i, .string x.lit.s, .int .i64 x.lv, .int .i64 x.col, .int .i64 x.op, .slice Ak x.kids.length ck, .slice As ns cs] 30)
          clear HI hkv hsv hk
          go_wp2_with (go_at_call 38; (with_reducible refine (HS.out _).mono ?_); rintro e w7 ⟨rfl, hb7⟩; have h7 := hbo.trans (hb7.mono hbo.size); have bX7 := bX.below hb7; have y0 := bX7.cell 0; have y9 := bX7.cell 9; simp only [List.getElem?_toArray, List.getElem?_cons_zero, List.getElem?_cons_succ] at y0 y9)
          refine ⟨⟨j + 1, by go_num, hlt, by rw [HT.out]; go_num, h7⟩, ?_⟩
          simp [intOf]
          try go_num
        · rw [subsX_top (by omega)] at HT hs9 hs0
          rw [hk] at x0
          simp only [List.length_nil, List.length_cons, Nat.zero_add, Int.ofNat_one] at HT hs9 hs0
          have HS : Hid (∀ w, Calls Tryz.prog 38 #[.agg #[.int .i64 6, .int .i64 x.t, .bool x.nl, .int .i64 x.lit.k, .int .i64 x.lit.i, .string x.lit.s, .int .i64 x.lv, .int .i64 x.col, .int .i64 x.op, .slice Ak x.kids.length ck, .slice As ns cs]] w (RightPost true w)) := fun w => by
            have h := isSub_any 6 x.t x.nl x.lit x.lv x.col x.op Ak As x.kids.length ck ns cs w
            rwa [subB_yes (by decide)] at h
          have bX := Blk.new wr #[.int .i64 6, .int .i64 x.t, .bool x.nl, .int .i64 x.lit.k, .int .i64 x.lit.i, .string x.lit.s, .int .i64 x.lv, .int .i64 x.col, .int .i64 x.op, .slice Ak x.kids.length ck, .slice As ns cs] 30
          have hbo := hb.alloc hb.size (.cells #[.int .i64 6, .int .i64 x.t, .bool x.nl, .int .i64 x.lit.k, .int .i64 x.lit.i, .string x.lit.s, .int .i64 x.lv, .int .i64 x.col, .int .i64 x.op, .slice Ak x.kids.length ck, .slice As ns cs] 30)
          clear HI hkv hsv hk
          go_wp2_with (go_at_call 38; (with_reducible refine (HS.out _).mono ?_); rintro e w7 ⟨rfl, hb7⟩; have h7 := hbo.trans (hb7.mono hbo.size); have bX7 := bX.below hb7; have y0 := bX7.cell 0; have y9 := bX7.cell 9; simp only [List.getElem?_toArray, List.getElem?_cons_zero, List.getElem?_cons_succ] at y0 y9)
          refine ⟨⟨j + 1, by go_num, hlt, by rw [HT.out]; go_num, h7⟩, ?_⟩
          simp [intOf]
          try go_num
    · have hnn : j = L.length := by omega
      subst hnn
      have HE : Hid (L.take L.length = L) := List.take_length
      rw [HE.out]
      clear hj hlt
      go_wp2_with fail
      go_ret
      exact ⟨rfl, hb⟩

/-- The kids' subqueries. -/
theorem subq_kids {w0 : World} {e : Ex} (h : ExOk w0 e) (env : Env) : e.k = 3 → rightX env e = true → (subsXs e.kids).length ≤ 9223372036854775807 → ∀ w : World, Below w0.heap.size w0 w → Calls Tryz.prog 18 #[e.kv] w (CntPost (subsXs e.kids).length w) := by
  induction h with
  | mk e hv hs hk ih =>
    intro h3 hr hl w hb0
    rw [rightX_eq, if_neg (by omega), if_neg (by omega), if_pos h3, Bool.and_eq_true, rightXs_all, List.all_eq_true] at hr
    refine subq_list e.kids e.kv hb0 (hv.below hb0) hk (fun x hx => right_kind (hr.1 x hx)) hl fun x hx hx3 w' hb' => ih x hx hx3 (hr.1 x hx) ?_ w' hb'
    exact Nat.le_trans (subs_mem hx hx3) hl

/-- Some expressions' subqueries. -/
theorem subq_any {w0 w : World} (L : List Ex) (v : Value) (env : Env) (hb0 : Below w0.heap.size w0 w) (hv : ExsV w v L) (hk : ∀ x ∈ L, ExOk w0 x) (hr : ∀ x ∈ L, rightX env x = true) (hl : (subsXs L).length ≤ 9223372036854775807) :
    Calls Tryz.prog 18 #[v] w (CntPost (subsXs L).length w) :=
  subq_list L v hb0 hv hk (fun x hx => right_kind (hr x hx)) hl fun x hx hx3 w' hb' => subq_kids (hk x hx) env hx3 (hr x hx) (Nat.le_trans (subs_mem hx hx3) hl) w' hb'

end Go.Proofs.YtippffjhkinfoaaGreatDoor

namespace Go.Proofs.YtippffjhkinfoaaGreatDoor
open Go.RowKit

/-- What comes up: a value, or an error. -/
def ifX (x : Va) : Value := if x.2 = 0 then .iface 27 (datVal x.1) else .iface 33 (.int .i64 x.2)
/-- The walk's block, and the subqueries' values that still lie ahead. -/
structure WSt (w0 w : World) (p : Nat) (vE v : Value) (S : List Dat) : Prop where
  blk : Blk w p #[vE, v] 52
  val : DatV w0 v S
  base : w0.heap.size ≤ p
  bel : Below w0.heap.size w0 w
/-- What worth leaves. -/
def WPost (x : Va) (n : Nat) (w0 : World) (p : Nat) (vE : Value) (S : List Dat) (w : World) (e : Ending) (w' : World) : Prop :=
  e = .returned (ifX x) ∧ ButB p w.heap.size w w' ∧ ∃ v' m, m ≤ n ∧ (x.2 = 0 → m = n) ∧ WSt w0 w' p vE v' (S.drop m)
/-- What pass leaves. -/
def PPost (n : Nat) (w0 : World) (p : Nat) (vE : Value) (S : List Dat) (w : World) (e : Ending) (w' : World) : Prop :=
  e = .returned (.tuple #[]) ∧ ButB p w.heap.size w w' ∧ ∃ v', WSt w0 w' p vE v' (S.drop n)
theorem WSt.below {w0 w w' : World} {p : Nat} {vE v : Value} {S : List Dat} (h : WSt w0 w p vE v S) (hb : Below w.heap.size w w') : WSt w0 w' p vE v S :=
  ⟨h.blk.below hb, h.val, h.base, h.bel.trans (hb.mono h.bel.size)⟩
theorem WSt.put {w0 w w8 : World} {p : Nat} {vE v u : Value} {S T : List Dat} (h : WSt w0 w p vE v S) (hb : Below w.heap.size w w8) (hu : DatV w0 u T) : WSt w0 (w8.setCell ⟨p, 1, none⟩ u) p vE u T :=
  ⟨by have := (h.blk.below hb).set 1 u; simpa using this, hu, h.base, (h.bel.trans (hb.mono h.bel.size)).setCell h.base u⟩
theorem ifX_ok {x : Va} (h : x.2 = 0) : ifX x = .iface 27 (datVal x.1) := if_pos h
theorem ifX_err {x : Va} (h : x.2 ≠ 0) : ifX x = .iface 33 (.int .i64 x.2) := if_neg h

set_option maxRecDepth 100000 in
set_option maxHeartbeats 8000000 in
theorem etruth_any (n : Int) (w : World) :
    Calls Tryz.prog 91 #[.int .i64 n] w fun e w' => e = .returned (.agg #[.int .i64 1, .int .i64 n, .string noText]) ∧ Below w.heap.size w w' := by
  go_enter Tryz.func91, Tryz.ntmps91
  go_wp2
  exact bodyPost_ret (v := .agg #[.int .i64 1, .int .i64 n, .string noText]) (by simp [results, Tryz.results91, go_sem]) rfl ⟨rfl, (Below.refl _ _).alloc (Nat.le_refl _) _⟩

set_option maxRecDepth 100000 in
set_option maxHeartbeats 8000000 in
theorem settles_any (op k i : Int) (s : ByteArray) (w : World) :
    Calls Tryz.prog 93 #[.int .i64 op, .agg #[.int .i64 k, .int .i64 i, .string s]] w (RightPost (setX op ⟨k, i, s⟩) w) := by
  have hb1 := (Below.refl w.heap.size w).alloc (Nat.le_refl _) (.cells #[.int .i64 k, .int .i64 i, .string s] 27)
  have bD := Blk.new w #[.int .i64 k, .int .i64 i, .string s] 27
  obtain ⟨W, hW⟩ : ∃ W, w.alloc (.cells #[.int .i64 k, .int .i64 i, .string s] 27) = W := ⟨_, rfl⟩
  rw [hW] at hb1 bD
  have y0 := bD.cell 0
  have y1 := bD.cell 1
  have y2 := bD.cell 2
  simp only [List.getElem?_toArray, List.getElem?_cons_zero, List.getElem?_cons_succ] at y0 y1 y2
  have k0 := fun n : Kept W => n.cell y0
  have k1 := fun n : Kept W => n.cell y1
  have k2 := fun n : Kept W => n.cell y2
  have HW := Lib.hid hW
  clear y0 y1 y2 hW
  by_cases h13 : op = 13
  · subst h13
    have hE := fun w => run_eq_datum k i s 1 0 noText w
    by_cases hq : k = 1 ∧ i = 0 ∧ s = noText
    · have hd := decide_eq_true hq
      have HQ : Hid (setX 13 ⟨k, i, s⟩ = true) := by unfold Hid; rw [setX_13]; exact hd
      simp only [hd] at hE
      clear hq hd
      clear bD
      go_enter Tryz.func93, Tryz.ntmps93
      go_wp2_with fail
      rw [HW.out]
      refine wp_region_kept (by kernel_rfl) (by kernel_rfl) ?_
      repeat (go_big_quiet_step ((go_at_call 91; (with_reducible exact Calls.kept (etruth_any _ _)))))
      refine wpQuiet_nil ?_
      intro wk hw'
      obtain ⟨⟨wq, hwq⟩, hw''⟩ := hw'
      simp only at hw''
      subst hw''
      go_wp2_with fail
      go_ret
      exact ⟨by rw [HQ.out]; rfl, hb1.trans (hwq.mono hb1.size)⟩
    · have hd := decide_eq_false hq
      have HQ : Hid (setX 13 ⟨k, i, s⟩ = false) := by unfold Hid; rw [setX_13]; exact hd
      simp only [hd] at hE
      clear hq hd
      clear bD
      go_enter Tryz.func93, Tryz.ntmps93
      go_wp2_with fail
      rw [HW.out]
      refine wp_region_kept (by kernel_rfl) (by kernel_rfl) ?_
      repeat (go_big_quiet_step ((go_at_call 91; (with_reducible exact Calls.kept (etruth_any _ _)))))
      refine wpQuiet_nil ?_
      intro wk hw'
      obtain ⟨⟨wq, hwq⟩, hw''⟩ := hw'
      simp only at hw''
      subst hw''
      go_wp2_with fail
      go_ret
      exact ⟨by rw [HQ.out]; rfl, hb1.trans (hwq.mono hb1.size)⟩
  · by_cases h14 : op = 14
    · subst h14
      clear h13
      have hE := fun w => run_eq_datum k i s 1 1 noText w
      by_cases hq : k = 1 ∧ i = 1 ∧ s = noText
      · have hd := decide_eq_true hq
        have HQ : Hid (setX 14 ⟨k, i, s⟩ = true) := by unfold Hid; rw [setX_14]; exact hd
        simp only [hd] at hE
        clear hq hd
        clear bD
        go_enter Tryz.func93, Tryz.ntmps93
        go_wp2_with fail
        rw [HW.out]
        refine wp_region_kept (by kernel_rfl) (by kernel_rfl) ?_
        repeat (go_big_quiet_step ((go_at_call 91; (with_reducible exact Calls.kept (etruth_any _ _)))))
        refine wpQuiet_nil ?_
        intro wk hw'
        obtain ⟨⟨wq, hwq⟩, hw''⟩ := hw'
        simp only at hw''
        subst hw''
        go_wp2_with fail
        go_ret
        exact ⟨by rw [HQ.out]; rfl, hb1.trans (hwq.mono hb1.size)⟩
      · have hd := decide_eq_false hq
        have HQ : Hid (setX 14 ⟨k, i, s⟩ = false) := by unfold Hid; rw [setX_14]; exact hd
        simp only [hd] at hE
        clear hq hd
        clear bD
        go_enter Tryz.func93, Tryz.ntmps93
        go_wp2_with fail
        rw [HW.out]
        refine wp_region_kept (by kernel_rfl) (by kernel_rfl) ?_
        repeat (go_big_quiet_step ((go_at_call 91; (with_reducible exact Calls.kept (etruth_any _ _)))))
        refine wpQuiet_nil ?_
        intro wk hw'
        obtain ⟨⟨wq, hwq⟩, hw''⟩ := hw'
        simp only at hw''
        subst hw''
        go_wp2_with fail
        go_ret
        exact ⟨by rw [HQ.out]; rfl, hb1.trans (hwq.mono hb1.size)⟩
    · have HQ : Hid (setX op ⟨k, i, s⟩ = false) := setX_other _ h13 h14
      have e13 : (op == 13) = false := beq_eq_false_iff_ne.2 h13
      have e14 : (op == 14) = false := beq_eq_false_iff_ne.2 h14
      clear h13 h14
      clear bD
      go_enter Tryz.func93, Tryz.ntmps93
      go_wp2_with fail
      rw [HW.out]
      refine wp_region_kept (by kernel_rfl) (by kernel_rfl) ?_
      repeat (go_big_quiet_step ((go_at_call 91; (with_reducible exact Calls.kept (etruth_any _ _)))))
      refine wpQuiet_nil ?_
      intro wk hw'
      obtain ⟨⟨wq, hwq⟩, hw''⟩ := hw'
      simp only at hw''
      subst hw''
      go_wp2_with fail
      go_ret
      exact ⟨by rw [HQ.out]; rfl, hb1.trans (hwq.mono hb1.size)⟩

set_option maxRecDepth 100000 in
set_option maxHeartbeats 8000000 in
theorem pass_any {w0 w : World} {p : Nat} {vE v : Value} {S : List Dat} (h : WSt w0 w p vE v S) (vm : Value) (hvm : SliceV vm) (n : Nat) (hn : n ≤ S.length)
    (HC : Hid (∀ w', Below w.heap.size w w' → Calls Tryz.prog 18 #[vm] w' (CntPost n w'))) :
    Calls Tryz.prog 92 #[.pointer (some ⟨p, 0, none⟩), vm] w (PPost n w0 p vE S w) := by
  obtain ⟨Am, nm, cm, rfl⟩ := hvm
  obtain ⟨As, cs, rfl, hcs, hms⟩ := h.val.len
  unfold maxLen at hms
  have y1 := h.blk.cell 1
  simp only [List.getElem?_toArray, List.getElem?_cons_zero, List.getElem?_cons_succ] at y1
  have f1 := h.blk.frozen 1
  have hpl := h.blk.lt
  have HR := Lib.hid (h.val.rest n hn hcs)
  have H := Lib.hid h
  have hn0 : (0 : Int) ≤ (n : Int) := by omega
  have hn1 : (n : Int) ≤ S.length := by omega
  have hn2 : (S.length : Int) ≤ cs := by omega
  clear h hn
  by_cases hci : cs = n
  · subst hci
    go_enter Tryz.func92, Tryz.ntmps92
    go_wp2_with fail
    have hSn : S.length = cs := by omega
    have HR2 : Hid (DatV w0 (.slice As 0 0) (S.drop cs)) := by
      have h := HR.out
      rw [if_pos trivial, hSn, Nat.sub_self] at h
      exact h
    clear HR hSn
    go_region_with (go_at_call 18; (with_reducible refine (HC.out _ ((Below.refl _ w).drew)).mono ?_); rintro e w8 ⟨rfl, hb8⟩; have h8 := ((Below.refl w.heap.size w).drew).trans hb8; have g1 := (h8.cell (p := ⟨p, 1, none⟩) hpl).trans y1; have gf := (h8.frozen (p := ⟨p, 1, none⟩) hpl).trans f1)
    all_goals refine bodyPost_ret (v := .tuple #[]) (by simp [results, Tryz.results92, go_sem]) rfl ?_
    all_goals exact ⟨rfl, (ButB.of p h8).setCell (.inr rfl) _, _, H.out.put h8 HR2.out⟩
  · have HAS : ∃ bs os, As = some ⟨bs, os, none⟩ := by
      rcases H.out.val with ⟨⟨A1, e⟩, h0⟩ | ⟨bs, os, c', e, _⟩
      · exfalso
        injection e with e1 e2 e3
        have h00 := congrArg List.length h0
        simp only [List.length_nil] at h00
        omega
      · injection e with e1 e2 e3
        exact ⟨bs, os, e1⟩
    obtain ⟨bs, os, rfl⟩ := HAS
    rw [if_neg hci] at HR
    simp only [Option.map_some] at HR
    go_enter Tryz.func92, Tryz.ntmps92
    go_wp2_with fail
    go_region_with (go_at_call 18; (with_reducible refine (HC.out _ ((Below.refl _ w).drew)).mono ?_); rintro e w8 ⟨rfl, hb8⟩; have h8 := ((Below.refl w.heap.size w).drew).trans hb8; have g1 := (h8.cell (p := ⟨p, 1, none⟩) hpl).trans y1; have gf := (h8.frozen (p := ⟨p, 1, none⟩) hpl).trans f1)
    all_goals refine bodyPost_ret (v := .tuple #[]) (by simp [results, Tryz.results92, go_sem]) rfl ?_
    all_goals exact ⟨rfl, (ButB.of p h8).setCell (.inr rfl) _, _, H.out.put h8 HR.out⟩

end Go.Proofs.YtippffjhkinfoaaGreatDoor

namespace Go.Proofs.YtippffjhkinfoaaGreatDoor
open Go.RowKit

theorem WSt.env {w0 w : World} {p : Nat} {vE v : Value} {S : List Dat} (h : WSt w0 w p vE v S) : w.cell? ⟨p, 0, none⟩ = some vE := by
  have y0 := h.blk.cell 0
  simp only [List.getElem?_toArray, List.getElem?_cons_zero] at y0
  exact y0

set_option maxRecDepth 100000 in
set_option maxHeartbeats 8000000 in
theorem worth_lit (t : Int) (nl : Bool) (lit : Dat) (lv col op : Int) (A sA : Option Addr) (n c sn sc : Nat) {w0 w : World} {p : Nat} {vE v : Value} {S : List Dat} (h : WSt w0 w p vE v S) :
    Calls Tryz.prog 19 #[.pointer (some ⟨p, 0, none⟩), .agg #[.int .i64 1, .int .i64 t, .bool nl, .int .i64 lit.k, .int .i64 lit.i, .string lit.s, .int .i64 lv, .int .i64 col, .int .i64 op, .slice A n c, .slice sA sn sc]] w (WPost (lit, 0) 0 w0 p vE S w) := by
  have hb1 := (Below.refl w.heap.size w).alloc (Nat.le_refl _) (.cells #[.int .i64 1, .int .i64 t, .bool nl, .int .i64 lit.k, .int .i64 lit.i, .string lit.s, .int .i64 lv, .int .i64 col, .int .i64 op, .slice A n c, .slice sA sn sc] 30)
  have H := Lib.hid h
  clear h
  obtain ⟨lk, li, ls⟩ := lit
  go_enter Tryz.func19, Tryz.ntmps19
  go_wp2_with fail
  go_ret
  exact ⟨rfl, ButB.of p hb1, v, 0, Nat.le_refl _, fun _ => rfl, by rw [List.drop_zero]; exact H.out.below hb1⟩

set_option maxRecDepth 100000 in
set_option maxHeartbeats 8000000 in
theorem worth_sub (k : Int) (t : Int) (nl : Bool) (lit : Dat) (lv col op : Int) (A sA : Option Addr) (n c sn sc : Nat) {w0 w : World} {p : Nat} {vE v : Value} {d : Dat} {r : List Dat} (h : WSt w0 w p vE v (d :: r)) (h1 : k ≠ 1) (h2 : k ≠ 2) (h3 : k ≠ 3) :
    Calls Tryz.prog 19 #[.pointer (some ⟨p, 0, none⟩), .agg #[.int .i64 k, .int .i64 t, .bool nl, .int .i64 lit.k, .int .i64 lit.i, .string lit.s, .int .i64 lv, .int .i64 col, .int .i64 op, .slice A n c, .slice sA sn sc]] w (WPost (d, 0) 1 w0 p vE (d :: r) w) := by
  have e1 : (k == 1) = false := beq_eq_false_iff_ne.2 h1
  have e2 : (k == 2) = false := beq_eq_false_iff_ne.2 h2
  have e3 : (k == 3) = false := beq_eq_false_iff_ne.2 h3
  clear h1 h2 h3
  obtain ⟨As, cs, rfl, hcs, hms⟩ := h.val.len
  unfold maxLen at hms
  have y0 := h.blk.cell 0
  have y1 := h.blk.cell 1
  simp only [List.getElem?_toArray, List.getElem?_cons_zero, List.getElem?_cons_succ] at y0 y1
  have f1 := h.blk.frozen 1
  have hpl := h.blk.lt
  have hpb := h.base
  have HR := Lib.hid (h.val.rest 1 (by simp) hcs)
  obtain ⟨b, off, rfl, hbl, x0, x1, x2⟩ := DatV.nth h.val 0 (by simp)
  simp only [List.getElem_cons_zero, Nat.zero_mul, Nat.add_zero] at x0 x1 x2
  have hbw := h.bel
  have z0 := (hbw.cell (p := ⟨b, off, none⟩) hbl).trans x0
  have z1 := (hbw.cell (p := ⟨b, off + 1, none⟩) hbl).trans x1
  have z2 := (hbw.cell (p := ⟨b, off + 2, none⟩) hbl).trans x2
  have H := Lib.hid h
  have hbw2 := Nat.lt_of_lt_of_le hbl hbw.size
  obtain ⟨dk, di, ds⟩ := d
  simp only at z0 z1 z2
  have hb1 := (Below.refl w.heap.size w).alloc (Nat.le_refl _) (.cells #[.int .i64 k, .int .i64 t, .bool nl, .int .i64 lit.k, .int .i64 lit.i, .string lit.s, .int .i64 lv, .int .i64 col, .int .i64 op, .slice A n c, .slice sA sn sc] 30)
  have hb2 := hb1.alloc hb1.size (.cells #[.int .i64 dk, .int .i64 di, .string ds] 27)
  have hl1 : (1 : Int) ≤ ((⟨dk, di, ds⟩ : Dat) :: r).length := by simp; omega
  have hl2 : (((⟨dk, di, ds⟩ : Dat) :: r).length : Int) ≤ cs := by omega
  have hl0 : (0 : Int) < ((⟨dk, di, ds⟩ : Dat) :: r).length := by omega
  clear h x0 x1 x2
  revert HR H hl0 hl1 hl2 hcs hms y1
  generalize hN : ((⟨dk, di, ds⟩ : Dat) :: r).length = N
  intro y1 hcs hms HR H hl1 hl2 hl0
  clear hN
  by_cases hci : cs = 1
  · rw [if_pos hci] at HR
    subst hci
    obtain rfl : N = 1 := by omega
    go_enter Tryz.func19, Tryz.ntmps19
    go_wp2_with fail
    go_ret
    exact ⟨rfl, (((ButB.refl p _ w).setCell (.inr rfl) _).alloc (by simp) _).alloc (by simp) _, _, 1, Nat.le_refl _, fun _ => rfl, (H.out.put (Below.refl _ _) HR.out).below (((Below.refl _ _).alloc (Nat.le_refl _) _).alloc (by simp) _)⟩
  · rw [if_neg hci] at HR
    simp only [Option.map_some] at HR
    go_enter Tryz.func19, Tryz.ntmps19
    go_wp2_with fail
    go_ret
    exact ⟨rfl, (((ButB.refl p _ w).setCell (.inr rfl) _).alloc (by simp) _).alloc (by simp) _, _, 1, Nat.le_refl _, fun _ => rfl, (H.out.put (Below.refl _ _) HR.out).below (((Below.refl _ _).alloc (Nat.le_refl _) _).alloc (by simp) _)⟩

set_option maxRecDepth 100000 in
set_option maxHeartbeats 8000000 in
theorem worth_call (t : Int) (nl : Bool) (lit : Dat) (lv col op : Int) (A sA : Option Addr) (n c sn sc : Nat) {w0 w : World} {p : Nat} {vE v : Value} {S : List Dat} (h : WSt w0 w p vE v S) (x : Va) (m : Nat)
    (HC : Hid (∀ w' v', WSt w0 w' p vE v' S → Calls Tryz.prog 41 #[.pointer (some ⟨p, 0, none⟩), .agg #[.int .i64 3, .int .i64 t, .bool nl, .int .i64 lit.k, .int .i64 lit.i, .string lit.s, .int .i64 lv, .int .i64 col, .int .i64 op, .slice A n c, .slice sA sn sc]] w' (WPost x m w0 p vE S w'))) :
    Calls Tryz.prog 19 #[.pointer (some ⟨p, 0, none⟩), .agg #[.int .i64 3, .int .i64 t, .bool nl, .int .i64 lit.k, .int .i64 lit.i, .string lit.s, .int .i64 lv, .int .i64 col, .int .i64 op, .slice A n c, .slice sA sn sc]] w (WPost x m w0 p vE S w) := by
  have hb1 := (Below.refl w.heap.size w).alloc (Nat.le_refl _) (.cells #[.int .i64 3, .int .i64 t, .bool nl, .int .i64 lit.k, .int .i64 lit.i, .string lit.s, .int .i64 lv, .int .i64 col, .int .i64 op, .slice A n c, .slice sA sn sc] 30)
  have HC1 := Lib.hid (HC.out _ _ (h.below hb1))
  clear HC h
  go_enter Tryz.func19, Tryz.ntmps19
  go_wp2_with (go_at_call 41; (with_reducible refine HC1.out.mono ?_); rintro e w5 ⟨rfl, hbut, HX⟩)
  go_ret
  exact ⟨rfl, (ButB.of p hb1).trans (hbut.mono hb1.size), HX⟩

set_option maxRecDepth 100000 in
set_option maxHeartbeats 8000000 in
theorem worth_col (t : Int) (nl : Bool) (lit : Dat) (lv col op : Int) (A sA : Option Addr) (n c sn sc : Nat) {w0 w : World} {p : Nat} {vE v : Value} {S : List Dat} (h : WSt w0 w p vE v S) (env : Env) (hE : EnvV w0 vE env) (d : Dat) (hd : colX lv col env = some d) :
    Calls Tryz.prog 19 #[.pointer (some ⟨p, 0, none⟩), .agg #[.int .i64 2, .int .i64 t, .bool nl, .int .i64 lit.k, .int .i64 lit.i, .string lit.s, .int .i64 lv, .int .i64 col, .int .i64 op, .slice A n c, .slice sA sn sc]] w (WPost (d, 0) 0 w0 p vE S w) := by
  obtain ⟨Ae, ce, rfl, hce, hme⟩ := hE.slice
  have hb1 := (Below.refl w.heap.size w).alloc (Nat.le_refl _) (.cells #[.int .i64 2, .int .i64 t, .bool nl, .int .i64 lit.k, .int .i64 lit.i, .string lit.s, .int .i64 lv, .int .i64 col, .int .i64 op, .slice A n c, .slice sA sn sc] 30)
  obtain ⟨i, j, rfl, rfl, hi, hj, rfl⟩ : ∃ i j : Nat, lv = i ∧ col = j ∧ ∃ (hi : i < env.length) (hj : j < env[i].l.length), d = env[i].l[j] := by
    unfold colX at hd
    split at hd
    · rename_i hs
      cases he : env[lv.toNat]? with
      | none => rw [he] at hd; cases hd
      | some r =>
        rw [he] at hd
        simp only [Option.bind_some] at hd
        obtain ⟨hi, hr⟩ := List.getElem?_eq_some_iff.mp he
        obtain ⟨hj, hq⟩ := List.getElem?_eq_some_iff.mp hd
        subst hr
        exact ⟨lv.toNat, col.toNat, by omega, by omega, hi, hj, hq.symm⟩
    · cases hd
  have hi' : (i : Int) < env.length := by omega
  have hi0 : (0 : Int) ≤ i := by omega
  have hj' : (j : Int) < env[i].l.length := by omega
  have hj0 : (0 : Int) ≤ j := by omega
  have hb01 := h.bel.trans (hb1.mono h.bel.size)
  obtain ⟨b, off, B, m, rfl, hbl, hcell, hrow⟩ := hE.row i hi
  have hcell1 := (hb01.cell (p := ⟨b, off + i, none⟩) hbl).trans hcell
  obtain ⟨b2, off2, rfl, hbl2, x0, x1, x2⟩ := DatV.nth hrow j hj
  have z0 := (hb01.cell (p := ⟨b2, off2 + j * 3, none⟩) hbl2).trans x0
  have z1 := (hb01.cell (p := ⟨b2, off2 + j * 3 + 1, none⟩) hbl2).trans x1
  have z2 := (hb01.cell (p := ⟨b2, off2 + j * 3 + 2, none⟩) hbl2).trans x2
  have y0 := (h.below hb1).env
  have H := Lib.hid h
  clear h hE hd hrow x0 x1 x2 hcell
  revert z0 z1 z2 hj' hcell1
  generalize env[i].l[j] = d
  generalize env[i].l.length = rl
  obtain ⟨dk, di, ds⟩ := d
  intro hcell1 hj' z0 z1 z2
  simp only at z0 z1 z2
  go_enter Tryz.func19, Tryz.ntmps19
  go_wp2_with fail
  go_quiet (fail)
  go_wp2_with fail
  go_ret
  exact ⟨rfl, ButB.of p (below_drewn hb1 _), v, 0, Nat.le_refl _, fun _ => rfl, by rw [List.drop_zero]; exact H.out.below (below_drewn hb1 _)⟩

set_option maxRecDepth 100000 in
set_option maxHeartbeats 8000000 in
theorem call_case (k : Int) (t : Int) (nl : Bool) (lit : Dat) (lv col : Int) (A sA : Option Addr) (n c sn sc : Nat) {w0 w : World} {p : Nat} {vE v : Value} {S : List Dat} (h : WSt w0 w p vE v S) (x : Va) (m : Nat)
    (HC : Hid (∀ w' v', WSt w0 w' p vE v' S → Calls Tryz.prog 63 #[.pointer (some ⟨p, 0, none⟩), .slice A n c] w' (WPost x m w0 p vE S w'))) :
    Calls Tryz.prog 41 #[.pointer (some ⟨p, 0, none⟩), .agg #[.int .i64 k, .int .i64 t, .bool nl, .int .i64 lit.k, .int .i64 lit.i, .string lit.s, .int .i64 lv, .int .i64 col, .int .i64 16, .slice A n c, .slice sA sn sc]] w (WPost x m w0 p vE S w) := by
  have hb1 := (Below.refl w.heap.size w).alloc (Nat.le_refl _) (.cells #[.int .i64 k, .int .i64 t, .bool nl, .int .i64 lit.k, .int .i64 lit.i, .string lit.s, .int .i64 lv, .int .i64 col, .int .i64 16, .slice A n c, .slice sA sn sc] 30)
  have HC1 := Lib.hid (HC.out _ _ (h.below hb1))
  clear HC h
  go_enter Tryz.func41, Tryz.ntmps41
  go_wp2_with (go_at_call 63; (with_reducible refine HC1.out.mono ?_); rintro e w5 ⟨rfl, hbut, HX⟩)
  go_ret
  exact ⟨rfl, (ButB.of p hb1).trans (hbut.mono hb1.size), HX⟩

set_option maxRecDepth 100000 in
set_option maxHeartbeats 8000000 in
theorem call_coal (k : Int) (t : Int) (nl : Bool) (lit : Dat) (lv col : Int) (A sA : Option Addr) (n c sn sc : Nat) {w0 w : World} {p : Nat} {vE v : Value} {S : List Dat} (h : WSt w0 w p vE v S) (x : Va) (m : Nat)
    (HC : Hid (∀ w' v', WSt w0 w' p vE v' S → Calls Tryz.prog 64 #[.pointer (some ⟨p, 0, none⟩), .slice A n c] w' (WPost x m w0 p vE S w'))) :
    Calls Tryz.prog 41 #[.pointer (some ⟨p, 0, none⟩), .agg #[.int .i64 k, .int .i64 t, .bool nl, .int .i64 lit.k, .int .i64 lit.i, .string lit.s, .int .i64 lv, .int .i64 col, .int .i64 17, .slice A n c, .slice sA sn sc]] w (WPost x m w0 p vE S w) := by
  have hb1 := (Below.refl w.heap.size w).alloc (Nat.le_refl _) (.cells #[.int .i64 k, .int .i64 t, .bool nl, .int .i64 lit.k, .int .i64 lit.i, .string lit.s, .int .i64 lv, .int .i64 col, .int .i64 17, .slice A n c, .slice sA sn sc] 30)
  have HC1 := Lib.hid (HC.out _ _ (h.below hb1))
  clear HC h
  go_enter Tryz.func41, Tryz.ntmps41
  go_wp2_with (go_at_call 64; (with_reducible refine HC1.out.mono ?_); rintro e w5 ⟨rfl, hbut, HX⟩)
  go_ret
  exact ⟨rfl, (ButB.of p hb1).trans (hbut.mono hb1.size), HX⟩

set_option maxRecDepth 100000 in
set_option maxHeartbeats 8000000 in
theorem call_oth (k : Int) (t : Int) (nl : Bool) (lit : Dat) (lv col op : Int) (A sA : Option Addr) (n c sn sc : Nat) {w0 w : World} {p : Nat} {vE v : Value} {S : List Dat} (h : WSt w0 w p vE v S) (x : Va) (m : Nat) (h16 : op ≠ 16) (h17 : op ≠ 17)
    (HC : Hid (∀ w' v', WSt w0 w' p vE v' S → Calls Tryz.prog 65 #[.pointer (some ⟨p, 0, none⟩), .int .i64 op, .slice A n c] w' (WPost x m w0 p vE S w'))) :
    Calls Tryz.prog 41 #[.pointer (some ⟨p, 0, none⟩), .agg #[.int .i64 k, .int .i64 t, .bool nl, .int .i64 lit.k, .int .i64 lit.i, .string lit.s, .int .i64 lv, .int .i64 col, .int .i64 op, .slice A n c, .slice sA sn sc]] w (WPost x m w0 p vE S w) := by
  have hb1 := (Below.refl w.heap.size w).alloc (Nat.le_refl _) (.cells #[.int .i64 k, .int .i64 t, .bool nl, .int .i64 lit.k, .int .i64 lit.i, .string lit.s, .int .i64 lv, .int .i64 col, .int .i64 op, .slice A n c, .slice sA sn sc] 30)
  have HC1 := Lib.hid (HC.out _ _ (h.below hb1))
  have e1 : (op == 16) = false := beq_eq_false_iff_ne.2 h16
  have e2 : (op == 17) = false := beq_eq_false_iff_ne.2 h17
  clear h16 h17
  clear HC h
  go_enter Tryz.func41, Tryz.ntmps41
  go_wp2_with (go_at_call 65; (with_reducible refine HC1.out.mono ?_); rintro e w5 ⟨rfl, hbut, HX⟩)
  go_ret
  exact ⟨rfl, (ButB.of p hb1).trans (hbut.mono hb1.size), HX⟩

end Go.Proofs.YtippffjhkinfoaaGreatDoor

namespace Go.Proofs.YtippffjhkinfoaaGreatDoor
open Go.RowKit

theorem valXs_take (env : Env) : ∀ (L : List Ex) (S : List Dat), valXs env L (S.take (subsXs L).length) = valXs env L S
  | [], S => by rw [valXs_nil, valXs_nil]
  | e :: l, S => by
    rw [valXs_cons, valXs_cons, subsXs_cons, List.length_append, List.take_take, Nat.min_eq_left (Nat.le_add_right _ _), List.drop_take, Nat.add_sub_cancel_left, valXs_take env l]
/-- A value hangs on the expression's own subqueries alone. -/
theorem valX_take (env : Env) (e : Ex) (S : List Dat) (h : 1 ≤ e.k) : valX env e (S.take (subsX e).length) = valX env e S := by
  rw [valX_eq, valX_eq, subsX_eq]
  by_cases h1 : e.k = 1
  · rw [if_pos h1, if_pos h1]
  · rw [if_neg h1, if_neg h1]
    by_cases h2 : e.k = 2
    · rw [if_pos h2, if_pos h2]
    · rw [if_neg h2, if_neg h2]
      by_cases h3 : e.k = 3
      · rw [if_pos h3, if_pos h3, if_neg (by omega), if_pos h3, valXs_take]
      · have h4 : 4 ≤ e.k := by omega
        rw [if_pos h4, if_neg h3, if_neg h3]
        cases S <;> rfl
theorem valXs_more (env : Env) (e : Ex) (l : List Ex) (S : List Dat) (h : 1 ≤ e.k) : valXs env (e :: l) S = valX env e S :: valXs env l (S.drop (subsX e).length) := by
  rw [valXs_cons, valX_take env e S h]

/-- Values that may be, within 64 bits. -/
def RI (S : List Dat) : Prop := ∀ d ∈ S, InI d ∧ rightD d = true
theorem RI.drop {S : List Dat} (h : RI S) (n : Nat) : RI (S.drop n) := fun d hd => h d (List.mem_of_mem_drop hd)
/-- What is known of kids, as their operator asks for them. -/
structure Kids (w0 : World) (env : Env) (p : Nat) (vE : Value) (L0 : List Ex) : Prop where
  shape : ∀ x ∈ L0, (∃ A c, x.kv = .slice A x.kids.length c) ∧ SliceV x.sv ∧ 1 ≤ x.k
  worth : ∀ x ∈ L0, ∀ w v S, WSt w0 w p vE v S → (subsX x).length ≤ S.length → RI S → Calls Tryz.prog 19 #[.pointer (some ⟨p, 0, none⟩), exVal x] w (WPost (valX env x S) (subsX x).length w0 p vE S w)
  pass : ∀ M vm w v S, (∀ x ∈ M, x ∈ L0) → ExsV w vm M → WSt w0 w p vE v S → (subsXs M).length ≤ S.length → Calls Tryz.prog 92 #[.pointer (some ⟨p, 0, none⟩), vm] w (PPost (subsXs M).length w0 p vE S w)
  right : ∀ x ∈ L0, ∀ S, RI S → rightD (valX env x S).1 = true
  inI : ∀ x ∈ L0, ∀ S, RI S → InI (valX env x S).1
def lenV : Value → Nat | .slice _ n _ => n | _ => 0

theorem ExsV.nth {w : World} {A : Option Addr} {c : Nat} {L : List Ex} (h : ExsV w (.slice A L.length c) L) (n : Nat) (hn : n < L.length) : ∃ b off, A = some ⟨b, off, none⟩ ∧ b < w.heap.size ∧
    w.cell? ⟨b, off + n * 11, none⟩ = some (.int .i64 L[n].k) ∧ w.cell? ⟨b, off + n * 11 + 1, none⟩ = some (.int .i64 L[n].t) ∧ w.cell? ⟨b, off + n * 11 + 2, none⟩ = some (.bool L[n].nl) ∧
    w.cell? ⟨b, off + n * 11 + 3, none⟩ = some (.int .i64 L[n].lit.k) ∧ w.cell? ⟨b, off + n * 11 + 4, none⟩ = some (.int .i64 L[n].lit.i) ∧ w.cell? ⟨b, off + n * 11 + 5, none⟩ = some (.string L[n].lit.s) ∧
    w.cell? ⟨b, off + n * 11 + 6, none⟩ = some (.int .i64 L[n].lv) ∧ w.cell? ⟨b, off + n * 11 + 7, none⟩ = some (.int .i64 L[n].col) ∧ w.cell? ⟨b, off + n * 11 + 8, none⟩ = some (.int .i64 L[n].op) ∧
    w.cell? ⟨b, off + n * 11 + 9, none⟩ = some L[n].kv ∧ w.cell? ⟨b, off + n * 11 + 10, none⟩ = some L[n].sv := by
  rcases h with ⟨_, h0⟩ | ⟨b, off, c', e, _, hb, hat, _⟩
  · rw [h0] at hn; simp at hn
  · injection e with e1 _ _
    exact ⟨b, off, e1, hb, hat.ex n hn⟩
theorem WSt.but {w0 w : World} {p : Nat} {vE v : Value} {S : List Dat} (h : WSt w0 w p vE v S) : p < w.heap.size := h.blk.lt
/-- One expression in new memory. -/
theorem valE_one (w : World) (b : Nat) (e : Ex) (hb : Blk w b #[.int .i64 e.k, .int .i64 e.t, .bool e.nl, .int .i64 e.lit.k, .int .i64 e.lit.i, .string e.lit.s, .int .i64 e.lv, .int .i64 e.col, .int .i64 e.op, e.kv, e.sv] 30) : ExsV w (.slice (some ⟨b, 0, none⟩) 1 1) [e] := by
  refine .inr ⟨b, 0, 1, rfl, by simp [maxLen], hb.lt, ?_, Nat.le_refl _⟩
  intro j z hj r u hr
  match j, hj with
  | 0, hj =>
    simp only [List.getElem?_cons_zero, Option.some.injEq] at hj
    subst hj
    rw [show 0 + 0 * 11 + r = r by omega, hb.cell]
    rw [List.getElem?_toArray]
    exact hr
  | j + 1, hj => simp at hj

theorem as_yes (v : Value) (w : World) : (Instr.typeAssert (.iface 27 v) 20 27 true).run Tryz.prog w = .ok (.tuple #[v, .bool true]) w := by kernel_rfl
theorem as_no (v : Value) (w : World) : (Instr.typeAssert (.iface 33 v) 20 27 true).run Tryz.prog w = .ok (.tuple #[.agg #[.int .i64 0, .int .i64 0, .string noText], .bool false]) w := by kernel_rfl
theorem as_err (v : Value) (w : World) : (Instr.typeAssert (.iface 33 v) 20 33 false).run Tryz.prog w = .ok v w := by kernel_rfl

set_option maxRecDepth 100000 in
set_option maxHeartbeats 8000000 in
theorem choice_any {w0 : World} {env : Env} {p : Nat} {vE : Value} {L0 : List Ex} (hK : Kids w0 env p vE L0) (vk : Value) (hv : ExsV w0 vk L0) {w : World} {v : Value} {S : List Dat} (h : WSt w0 w p vE v S) (hS : (subsXs L0).length ≤ S.length) (hRI : RI S) :
    Calls Tryz.prog 63 #[.pointer (some ⟨p, 0, none⟩), vk] w (WPost (caseX (valXs env L0 S)) (subsXs L0).length w0 p vE S w) := by
  obtain ⟨A, c, rfl, hc, hm⟩ := hv.slice
  obtain ⟨Y, hY⟩ : ∃ Y, caseX (valXs env L0 S) = Y := ⟨_, rfl⟩
  obtain ⟨N, hN⟩ : ∃ N, (subsXs L0).length = N := ⟨_, rfl⟩
  rw [hY, hN]
  rw [hN] at hS
  have HI0 : Hid (∃ v m, ExsV w0 (.slice A L0.length c) L0 ∧ (∀ x ∈ L0, x ∈ L0) ∧ WSt w0 w p vE v (S.drop m) ∧ m + (subsXs L0).length = N ∧ caseX (valXs env L0 (S.drop m)) = Y ∧ ButB p w.heap.size w w) :=
    ⟨v, 0, hv, fun x hx => hx, by rw [List.drop_zero]; exact h, by rw [hN, Nat.zero_add], by rw [List.drop_zero]; exact hY, ButB.refl _ _ _⟩
  have HRI := Lib.hid hRI
  have HS := Lib.hid hS
  have HK := Lib.hid hK
  clear hY hN hS hRI h hv hK
  go_enter Tryz.func63, Tryz.ntmps63
  go_wp2_with fail
  go_loopw [1] (fun u wr => ∃ (L : List Ex) (A' : Option Addr) (c' : Nat), u = .slice A' L.length c' ∧ Hid (∃ v m, ExsV w0 (.slice A' L.length c') L ∧ (∀ x ∈ L, x ∈ L0) ∧ WSt w0 wr p vE v (S.drop m) ∧ m + (subsXs L).length = N ∧ caseX (valXs env L (S.drop m)) = Y ∧ ButB p w.heap.size w wr)) (fun u _ => lenV u)
  case atStart => exact ⟨L0, A, c, rfl, HI0⟩
  case round =>
    clear HI0
    obtain ⟨L, A', c', rfl, HI⟩ := hrel
    match L, HI with
    | [], HI =>
      obtain ⟨v', m, hv, _, hst, hN, hY, hbut⟩ := HI.out
      rw [valXs_nil, caseX] at hY
      rw [subsXs_nil] at hN
      have HZ := Lib.hid hN
      have HS' := Lib.hid hst
      have HB := Lib.hid hbut
      have HY := Lib.hid hY
      clear hv hst hN hY hbut HI
      simp only [List.length_nil]
      go_wp2_with fail
      go_ret
      exact ⟨by rw [← HY.out]; rfl, HB.out, v', m, by have := HZ.out; simp at this; omega, fun _ => by have := HZ.out; simp at this; omega, HS'.out⟩
    | [a], HI =>
      obtain ⟨v', m, hv, hmem, hst, hN, hY, hbut⟩ := HI.out
      obtain ⟨⟨Ak, ak, hkv⟩, ⟨An, an, as_, hsv⟩, hk1⟩ := HK.out.shape a (hmem a (by simp))
      rw [valXs_more env a [] _ hk1, valXs_nil, caseX] at hY
      rw [subsXs_cons, subsXs_nil, List.append_nil] at hN
      obtain ⟨bl, off, rfl, hbl, x0, x1, x2, x3, x4, x5, x6, x7, x8, x9, x10⟩ := hv.nth 0 (by simp)
      simp only [List.getElem_cons_zero, Nat.zero_mul, Nat.add_zero] at x0 x1 x2 x3 x4 x5 x6 x7 x8 x9 x10
      rw [hkv] at x9
      rw [hsv] at x10
      have hbel := hst.bel
      have z0 := (hbel.cell (p := ⟨bl, off, none⟩) hbl).trans x0
      have z1 := (hbel.cell (p := ⟨bl, off + 1, none⟩) hbl).trans x1
      have z2 := (hbel.cell (p := ⟨bl, off + 2, none⟩) hbl).trans x2
      have z3 := (hbel.cell (p := ⟨bl, off + 3, none⟩) hbl).trans x3
      have z4 := (hbel.cell (p := ⟨bl, off + 4, none⟩) hbl).trans x4
      have z5 := (hbel.cell (p := ⟨bl, off + 5, none⟩) hbl).trans x5
      have z6 := (hbel.cell (p := ⟨bl, off + 6, none⟩) hbl).trans x6
      have z7 := (hbel.cell (p := ⟨bl, off + 7, none⟩) hbl).trans x7
      have z8 := (hbel.cell (p := ⟨bl, off + 8, none⟩) hbl).trans x8
      have z9 := (hbel.cell (p := ⟨bl, off + 9, none⟩) hbl).trans x9
      have z10 := (hbel.cell (p := ⟨bl, off + 10, none⟩) hbl).trans x10
      have hC := HK.out.worth a (hmem a (by simp)) wr v' (S.drop m) hst (by have := HS.out; rw [List.length_drop]; omega) (HRI.out.drop m)
      unfold exVal at hC
      rw [hkv, hsv, hY] at hC
      have HC := Lib.hid hC
      have HZ := Lib.hid hN
      have HB := Lib.hid hbut
      clear hC hkv hsv hY hN hbut hst hbel HI hv hmem hk1 x0 x1 x2 x3 x4 x5 x6 x7 x8 x9 x10
      simp only [List.length_cons, List.length_nil, Nat.zero_add]
      go_wp2_with (go_at_call 19; (with_reducible refine HC.out.mono ?_); rintro e w7 ⟨rfl, hbut7, v7, m7, hm7, hok7, hst7⟩)
      go_ret
      exact ⟨rfl, HB.out.trans (hbut7.mono HB.out.size), v7, m + m7, by have := HZ.out; omega, fun h => by have := HZ.out; have := hok7 h; omega, by rw [← List.drop_drop]; exact hst7⟩
    | a :: b :: l, HI =>
      obtain ⟨v', m, hv, hmem, hst, hN, hY, hbut⟩ := HI.out
      obtain ⟨⟨Ak, ak, hkva⟩, ⟨An, an, as_, hsva⟩, hk1⟩ := HK.out.shape a (hmem a (by simp))
      obtain ⟨⟨Bk, bk, hkvb⟩, ⟨Bs, bn, bs_, hsvb⟩, hk2⟩ := HK.out.shape b (hmem b (by simp))
      rw [valXs_more env a _ _ hk1, valXs_more env b _ _ hk2, caseX, List.drop_drop, List.drop_drop] at hY
      rw [subsXs_cons, subsXs_cons, List.length_append, List.length_append] at hN
      have hcc : (a :: b :: l).length ≤ c' := by
        obtain ⟨_, _, e, h, _⟩ := hv.slice
        injection e with e1 e2 e3
        rw [e3]; exact h
      have hrest := hv.rest 2 (by simp) hcc
      rw [show (a :: b :: l).drop 2 = l from rfl] at hrest
      obtain ⟨bl, off, hA, hbl, x0, x1, x2, x3, x4, x5, x6, x7, x8, x9, x10⟩ := hv.nth 0 (by simp)
      obtain ⟨bl', off', hA', _, q0, q1, q2, q3, q4, q5, q6, q7, q8, q9, q10⟩ := hv.nth 1 (by simp)
      rw [hA] at hA'
      injection hA' with hA'
      injection hA' with hA1 hA2
      subst hA1 hA2
      simp only [List.getElem_cons_zero, List.getElem_cons_succ, Nat.zero_mul, Nat.add_zero, Nat.one_mul] at x0 x1 x2 x3 x4 x5 x6 x7 x8 x9 x10 q0 q1 q2 q3 q4 q5 q6 q7 q8 q9 q10
      rw [hkva] at x9
      rw [hsva] at x10
      rw [hkvb] at q9
      rw [hsvb] at q10
      have hbel := hst.bel
      have z0 := (hbel.cell (p := ⟨bl, off, none⟩) hbl).trans x0
      have z1 := (hbel.cell (p := ⟨bl, off + 1, none⟩) hbl).trans x1
      have z2 := (hbel.cell (p := ⟨bl, off + 2, none⟩) hbl).trans x2
      have z3 := (hbel.cell (p := ⟨bl, off + 3, none⟩) hbl).trans x3
      have z4 := (hbel.cell (p := ⟨bl, off + 4, none⟩) hbl).trans x4
      have z5 := (hbel.cell (p := ⟨bl, off + 5, none⟩) hbl).trans x5
      have z6 := (hbel.cell (p := ⟨bl, off + 6, none⟩) hbl).trans x6
      have z7 := (hbel.cell (p := ⟨bl, off + 7, none⟩) hbl).trans x7
      have z8 := (hbel.cell (p := ⟨bl, off + 8, none⟩) hbl).trans x8
      have z9 := (hbel.cell (p := ⟨bl, off + 9, none⟩) hbl).trans x9
      have z10 := (hbel.cell (p := ⟨bl, off + 10, none⟩) hbl).trans x10
      have hlen : m + (subsX a).length + (subsX b).length + (subsXs l).length ≤ S.length := by have := HS.out; omega
      have hC := HK.out.worth a (hmem a (by simp)) wr v' (S.drop m) hst (by rw [List.length_drop]; omega) (HRI.out.drop m)
      have hRT := HK.out.right a (hmem a (by simp)) (S.drop m) (HRI.out.drop m)
      have HCB : Hid (∀ w' v', WSt w0 w' p vE v' (S.drop (m + (subsX a).length)) → Calls Tryz.prog 19 #[.pointer (some ⟨p, 0, none⟩), exVal b] w' (WPost (valX env b (S.drop (m + (subsX a).length))) (subsX b).length w0 p vE (S.drop (m + (subsX a).length)) w')) :=
        fun w' v' hs => HK.out.worth b (hmem b (by simp)) w' v' _ hs (by rw [List.length_drop]; omega) (HRI.out.drop _)
      have HCP : Hid (∀ vm w' v' k, k + (subsXs l).length ≤ S.length → ExsV w0 vm l → WSt w0 w' p vE v' (S.drop k) → Calls Tryz.prog 92 #[.pointer (some ⟨p, 0, none⟩), vm] w' (PPost (subsXs l).length w0 p vE (S.drop k) w')) :=
        fun vm w' v' k hk hvm hs => HK.out.pass l vm w' v' _ (fun x hx => hmem x (by simp [hx])) (hvm.below hs.bel) hs (by rw [List.length_drop]; omega)
      have HC1 : Hid (∀ vm w' v', ExsV w' vm [b] → WSt w0 w' p vE v' (S.drop (m + (subsX a).length)) → Calls Tryz.prog 92 #[.pointer (some ⟨p, 0, none⟩), vm] w' (PPost (subsX b).length w0 p vE (S.drop (m + (subsX a).length)) w')) := by
        intro vm w' v' hvm hs
        have h := HK.out.pass [b] vm w' v' _ (fun x hx => hmem x (by rw [List.mem_singleton] at hx; simp [hx])) hvm hs (by rw [subsXs_cons, subsXs_nil, List.append_nil, List.length_drop]; omega)
        rwa [subsXs_cons, subsXs_nil, List.append_nil] at h
      have HM : Hid (∀ x ∈ l, x ∈ L0) := fun x hx => hmem x (by simp [hx])
      have HN := Lib.hid hN
      have HLN := Lib.hid hlen
      have HB := Lib.hid hbut
      have HV := Lib.hid (show ExsV w0 _ l from hrest)
      have HBV := Lib.hid hst
      unfold exVal at hC HCB
      rw [hkva, hsva] at hC
      rw [hkvb, hsvb] at HCB
      have hbN : 2 ≤ (a :: b :: l).length := by simp
      have hlN : (a :: b :: l).length - 2 = l.length := by simp
      subst hA
      clear hv hmem hN hlen hbut hrest hkva hsva hk1 hk2 HI x0 x1 x2 x3 x4 x5 x6 x7 x8 x9 x10 hst
      revert hY hC hRT
      generalize valX env a (S.drop m) = x
      obtain ⟨⟨xk, xi, xs⟩, xf⟩ := x
      intro hY hC hRT
      simp only at hY hRT
      have HEB : Hid (∀ wk : World, ExsV (wk.alloc (.cells #[.int .i64 b.k, .int .i64 b.t, .bool b.nl, .int .i64 b.lit.k, .int .i64 b.lit.i, .string b.lit.s, .int .i64 b.lv, .int .i64 b.col, .int .i64 b.op, .slice Bk b.kids.length bk, .slice Bs bn bs_] 30)) (.slice (some ⟨wk.heap.size, 0, none⟩) 1 1) [b]) := fun wk => valE_one _ _ b (by rw [hkvb, hsvb]; exact Blk.new _ _ _)
      clear hkvb hsvb
      generalize hN' : (a :: b :: l).length = N' at hcc HV hbN hlN ⊢
      have HlN := Lib.hid hlN
      have hb1 : (1 : Int) < N' := by omega
      have hb2 : (2 : Int) ≤ N' := by omega
      have hc2 : (N' : Int) ≤ c' := by omega
      clear hN' hlN hbel
      by_cases hf : xf ≠ 0
      · have HC : Hid (Calls Tryz.prog 19 #[.pointer (some ⟨p, 0, none⟩), .agg #[.int .i64 a.k, .int .i64 a.t, .bool a.nl, .int .i64 a.lit.k, .int .i64 a.lit.i, .string a.lit.s, .int .i64 a.lv, .int .i64 a.col, .int .i64 a.op, .slice Ak a.kids.length ak, .slice An an as_]] wr (fun e w' => e = .returned (.iface 33 (.int .i64 xf)) ∧ ButB p wr.heap.size wr w' ∧ ∃ v' m', m' ≤ (subsX a).length ∧ WSt w0 w' p vE v' (S.drop (m + m')))) := by
          refine hC.mono ?_
          rintro e w7 ⟨rfl, h2, v2, m2, h3, _, h5⟩
          exact ⟨by rw [ifX_err hf], h2, v2, m2, h3, by rw [← List.drop_drop]; exact h5⟩
        rw [if_pos hf] at hY
        have HY := Lib.hid hY
        have HF := Lib.hid hf
        clear hC hRT hY HCB HCP HC1 HV HEB hf
        have hTN := as_no
        go_wp2_with (go_at_call 19; (with_reducible refine HC.out.mono ?_); rintro e w7 ⟨rfl, hbut7, v7, m7, hm7, hst7⟩)
        go_ret
        exact ⟨by rw [← HY.out, ifX_err (x := nulX xf) HF.out]; rfl, (HB.out.trans (hbut7.mono HB.out.size)).alloc (by have := HB.out.size; have := hbut7.size; omega) _, v7, m + m7, by have := HN.out; omega, fun h => by rw [← HY.out] at h; exact absurd h HF.out, hst7.below ((Below.refl _ _).alloc (Nat.le_refl _) _)⟩
      · rw [Classical.not_not] at hf
        subst hf
        rw [if_neg (by simp)] at hY
        have HC : Hid (Calls Tryz.prog 19 #[.pointer (some ⟨p, 0, none⟩), .agg #[.int .i64 a.k, .int .i64 a.t, .bool a.nl, .int .i64 a.lit.k, .int .i64 a.lit.i, .string a.lit.s, .int .i64 a.lv, .int .i64 a.col, .int .i64 a.op, .slice Ak a.kids.length ak, .slice An an as_]] wr (fun e w' => e = .returned (.iface 27 (.agg #[.int .i64 xk, .int .i64 xi, .string xs])) ∧ ButB p wr.heap.size wr w' ∧ ∃ v', WSt w0 w' p vE v' (S.drop (m + (subsX a).length)))) := by
          refine hC.mono ?_
          rintro e w7 ⟨rfl, h2, v2, m2, h3, h4, h5⟩
          have h6 := h4 rfl
          subst h6
          exact ⟨by rw [ifX_ok rfl], h2, v2, by rw [← List.drop_drop]; exact h5⟩
        clear hC
        by_cases h1 : xk = 1
        · rcases right_bool hRT h1 with hd | hd
          · injection hd with e1 e2 e3
            subst e1 e2 e3
            rw [if_neg (by decide), if_neg (by decide)] at hY
            have HY := Lib.hid hY
            have hE : ∀ w, (binOp .eql 27 (.agg #[.int .i64 1, .int .i64 0, .string noText]) (.agg #[.int .i64 1, .int .i64 1, .string noText])).run Tryz.prog w = .ok (.bool false) w := fun w => run_eq_datum 1 0 noText 1 1 noText w
            clear hY HCB HCP
            by_cases hci : c' = 2
            · rw [if_pos hci] at HV
              subst hci
              obtain rfl : N' = 2 := by omega
              have HV2 : Hid (ExsV w0 (.slice (some ⟨bl, off, none⟩) 0 0) l) := HV.out
              clear HV
              have hTY := as_yes
              go_wp2_with (go_at_call 19; (with_reducible refine HC.out.mono ?_); rintro e w7 ⟨rfl, hbut7, v7, hst7⟩; have hbut8 := (HB.out.trans (hbut7.mono HB.out.size)).alloc (by have := HB.out.size; have := hbut7.size; omega) (.cells #[.int .i64 1, .int .i64 0, .string noText] 27); have hst8 := hst7.below ((Below.refl _ w7).alloc (Nat.le_refl _) (.cells #[.int .i64 1, .int .i64 0, .string noText] 27)); have bD := Blk.new w7 #[.int .i64 1, .int .i64 0, .string noText] 27; have c0 := bD.cell 0; have c1 := bD.cell 1; have c2 := bD.cell 2; simp only [List.getElem?_toArray, List.getElem?_cons_zero, List.getElem?_cons_succ] at c0 c1 c2; have k0 := fun n : Kept (w7.alloc (.cells #[.int .i64 1, .int .i64 0, .string noText] 27)) => n.cell c0; have k1 := fun n : Kept (w7.alloc (.cells #[.int .i64 1, .int .i64 0, .string noText] 27)) => n.cell c1; have k2 := fun n : Kept (w7.alloc (.cells #[.int .i64 1, .int .i64 0, .string noText] 27)) => n.cell c2)
              refine wp_region_kept (by kernel_rfl) (by kernel_rfl) ?_
              repeat (go_big_quiet_step ((go_at_call 91; (with_reducible exact Calls.kept (etruth_any _ _)))))
              refine wpQuiet_nil ?_
              intro wk hw'
              obtain ⟨⟨wq, hwq⟩, hw''⟩ := hw'
              simp only at hw''
              subst hw''
              have hst9 := hst8.below hwq
              have hbut9 := hbut8.add hwq (by have := HB.out.size; have := hbut7.size; simp; omega)
              have c0 := (bD.below hwq).cell 0
              simp only [List.getElem?_toArray, List.getElem?_cons_zero] at c0
              have hbel9 := hst9.bel
              have r0 := (hbel9.cell (p := ⟨bl, off + 11, none⟩) hbl).trans q0
              have r1 := (hbel9.cell (p := ⟨bl, off + 11 + 1, none⟩) hbl).trans q1
              have r2 := (hbel9.cell (p := ⟨bl, off + 11 + 2, none⟩) hbl).trans q2
              have r3 := (hbel9.cell (p := ⟨bl, off + 11 + 3, none⟩) hbl).trans q3
              have r4 := (hbel9.cell (p := ⟨bl, off + 11 + 4, none⟩) hbl).trans q4
              have r5 := (hbel9.cell (p := ⟨bl, off + 11 + 5, none⟩) hbl).trans q5
              have r6 := (hbel9.cell (p := ⟨bl, off + 11 + 6, none⟩) hbl).trans q6
              have r7 := (hbel9.cell (p := ⟨bl, off + 11 + 7, none⟩) hbl).trans q7
              have r8 := (hbel9.cell (p := ⟨bl, off + 11 + 8, none⟩) hbl).trans q8
              have r9 := (hbel9.cell (p := ⟨bl, off + 11 + 9, none⟩) hbl).trans q9
              have r10 := (hbel9.cell (p := ⟨bl, off + 11 + 10, none⟩) hbl).trans q10
              clear k0 k1 k2 c1 c2 hst8 hbut8 bD hbel9 z0 z1 z2 z3 z4 z5 z6 z7 z8 z9 z10 q0 q1 q2 q3 q4 q5 q6 q7 q8 q9 q10
              go_wp2_with (go_at_call 92; (with_reducible refine (HC1.out _ _ _ (HEB.out _) (hst9.below ((Below.refl _ wk).alloc (Nat.le_refl _) (.cells #[.int .i64 b.k, .int .i64 b.t, .bool b.nl, .int .i64 b.lit.k, .int .i64 b.lit.i, .string b.lit.s, .int .i64 b.lv, .int .i64 b.col, .int .i64 b.op, .slice Bk b.kids.length bk, .slice Bs bn bs_] 30)))).mono ?_); rintro e w11 ⟨rfl, hbut12, v11, hst11⟩; rw [List.drop_drop] at hst11; have hbut13 := (hbut9.alloc (by have := hbut9.size; omega) (.cells #[.int .i64 b.k, .int .i64 b.t, .bool b.nl, .int .i64 b.lit.k, .int .i64 b.lit.i, .string b.lit.s, .int .i64 b.lv, .int .i64 b.col, .int .i64 b.op, .slice Bk b.kids.length bk, .slice Bs bn bs_] 30)).trans (hbut12.mono (by have := hbut9.size; simp; omega)))
              refine ⟨⟨l, _, _, by rw [← HlN.out], ⟨v11, m + (subsX a).length + (subsX b).length, by rw [← HlN.out]; exact HV2.out, HM.out, hst11, by have := HN.out; omega, HY.out, hbut13⟩⟩, ?_⟩
              simp [lenV]
              try omega
            · rw [if_neg hci] at HV
              have HV2 : Hid (ExsV w0 (.slice (some ⟨bl, off + 22, none⟩) (N' - 2) (c' - 2)) l) := HV.out
              clear HV
              have hTY := as_yes
              go_wp2_with (go_at_call 19; (with_reducible refine HC.out.mono ?_); rintro e w7 ⟨rfl, hbut7, v7, hst7⟩; have hbut8 := (HB.out.trans (hbut7.mono HB.out.size)).alloc (by have := HB.out.size; have := hbut7.size; omega) (.cells #[.int .i64 1, .int .i64 0, .string noText] 27); have hst8 := hst7.below ((Below.refl _ w7).alloc (Nat.le_refl _) (.cells #[.int .i64 1, .int .i64 0, .string noText] 27)); have bD := Blk.new w7 #[.int .i64 1, .int .i64 0, .string noText] 27; have c0 := bD.cell 0; have c1 := bD.cell 1; have c2 := bD.cell 2; simp only [List.getElem?_toArray, List.getElem?_cons_zero, List.getElem?_cons_succ] at c0 c1 c2; have k0 := fun n : Kept (w7.alloc (.cells #[.int .i64 1, .int .i64 0, .string noText] 27)) => n.cell c0; have k1 := fun n : Kept (w7.alloc (.cells #[.int .i64 1, .int .i64 0, .string noText] 27)) => n.cell c1; have k2 := fun n : Kept (w7.alloc (.cells #[.int .i64 1, .int .i64 0, .string noText] 27)) => n.cell c2)
              refine wp_region_kept (by kernel_rfl) (by kernel_rfl) ?_
              repeat (go_big_quiet_step ((go_at_call 91; (with_reducible exact Calls.kept (etruth_any _ _)))))
              refine wpQuiet_nil ?_
              intro wk hw'
              obtain ⟨⟨wq, hwq⟩, hw''⟩ := hw'
              simp only at hw''
              subst hw''
              have hst9 := hst8.below hwq
              have hbut9 := hbut8.add hwq (by have := HB.out.size; have := hbut7.size; simp; omega)
              have c0 := (bD.below hwq).cell 0
              simp only [List.getElem?_toArray, List.getElem?_cons_zero] at c0
              have hbel9 := hst9.bel
              have r0 := (hbel9.cell (p := ⟨bl, off + 11, none⟩) hbl).trans q0
              have r1 := (hbel9.cell (p := ⟨bl, off + 11 + 1, none⟩) hbl).trans q1
              have r2 := (hbel9.cell (p := ⟨bl, off + 11 + 2, none⟩) hbl).trans q2
              have r3 := (hbel9.cell (p := ⟨bl, off + 11 + 3, none⟩) hbl).trans q3
              have r4 := (hbel9.cell (p := ⟨bl, off + 11 + 4, none⟩) hbl).trans q4
              have r5 := (hbel9.cell (p := ⟨bl, off + 11 + 5, none⟩) hbl).trans q5
              have r6 := (hbel9.cell (p := ⟨bl, off + 11 + 6, none⟩) hbl).trans q6
              have r7 := (hbel9.cell (p := ⟨bl, off + 11 + 7, none⟩) hbl).trans q7
              have r8 := (hbel9.cell (p := ⟨bl, off + 11 + 8, none⟩) hbl).trans q8
              have r9 := (hbel9.cell (p := ⟨bl, off + 11 + 9, none⟩) hbl).trans q9
              have r10 := (hbel9.cell (p := ⟨bl, off + 11 + 10, none⟩) hbl).trans q10
              clear k0 k1 k2 c1 c2 hst8 hbut8 bD hbel9 z0 z1 z2 z3 z4 z5 z6 z7 z8 z9 z10 q0 q1 q2 q3 q4 q5 q6 q7 q8 q9 q10
              go_wp2_with (go_at_call 92; (with_reducible refine (HC1.out _ _ _ (HEB.out _) (hst9.below ((Below.refl _ wk).alloc (Nat.le_refl _) (.cells #[.int .i64 b.k, .int .i64 b.t, .bool b.nl, .int .i64 b.lit.k, .int .i64 b.lit.i, .string b.lit.s, .int .i64 b.lv, .int .i64 b.col, .int .i64 b.op, .slice Bk b.kids.length bk, .slice Bs bn bs_] 30)))).mono ?_); rintro e w11 ⟨rfl, hbut12, v11, hst11⟩; rw [List.drop_drop] at hst11; have hbut13 := (hbut9.alloc (by have := hbut9.size; omega) (.cells #[.int .i64 b.k, .int .i64 b.t, .bool b.nl, .int .i64 b.lit.k, .int .i64 b.lit.i, .string b.lit.s, .int .i64 b.lv, .int .i64 b.col, .int .i64 b.op, .slice Bk b.kids.length bk, .slice Bs bn bs_] 30)).trans (hbut12.mono (by have := hbut9.size; simp; omega)))
              refine ⟨⟨l, _, _, by rw [← HlN.out], ⟨v11, m + (subsX a).length + (subsX b).length, by rw [← HlN.out]; exact HV2.out, HM.out, hst11, by have := HN.out; omega, HY.out, hbut13⟩⟩, ?_⟩
              simp [lenV]
              try omega
          · injection hd with e1 e2 e3
            subst e1 e2 e3
            rw [if_neg (by decide), if_pos ⟨rfl, rfl⟩] at hY
            have HY := Lib.hid hY
            rw [HY.out] at HCB
            have hE := fun w => run_eq_datum 1 1 noText 1 1 noText w
            simp only [and_self, decide_true] at hE
            clear hY HC1 HEB
            by_cases hci : c' = 2
            · rw [if_pos hci] at HV
              subst hci
              obtain rfl : N' = 2 := by omega
              have HV2 : Hid (ExsV w0 (.slice (some ⟨bl, off, none⟩) 0 0) l) := HV.out
              clear HV
              have hTY := as_yes
              go_wp2_with (go_at_call 19; (with_reducible refine HC.out.mono ?_); rintro e w7 ⟨rfl, hbut7, v7, hst7⟩; have hbut8 := (HB.out.trans (hbut7.mono HB.out.size)).alloc (by have := HB.out.size; have := hbut7.size; omega) (.cells #[.int .i64 1, .int .i64 1, .string noText] 27); have hst8 := hst7.below ((Below.refl _ w7).alloc (Nat.le_refl _) (.cells #[.int .i64 1, .int .i64 1, .string noText] 27)); have bD := Blk.new w7 #[.int .i64 1, .int .i64 1, .string noText] 27; have c0 := bD.cell 0; have c1 := bD.cell 1; have c2 := bD.cell 2; simp only [List.getElem?_toArray, List.getElem?_cons_zero, List.getElem?_cons_succ] at c0 c1 c2; have k0 := fun n : Kept (w7.alloc (.cells #[.int .i64 1, .int .i64 1, .string noText] 27)) => n.cell c0; have k1 := fun n : Kept (w7.alloc (.cells #[.int .i64 1, .int .i64 1, .string noText] 27)) => n.cell c1; have k2 := fun n : Kept (w7.alloc (.cells #[.int .i64 1, .int .i64 1, .string noText] 27)) => n.cell c2)
              refine wp_region_kept (by kernel_rfl) (by kernel_rfl) ?_
              repeat (go_big_quiet_step ((go_at_call 91; (with_reducible exact Calls.kept (etruth_any _ _)))))
              refine wpQuiet_nil ?_
              intro wk hw'
              obtain ⟨⟨wq, hwq⟩, hw''⟩ := hw'
              simp only at hw''
              subst hw''
              have hst9 := hst8.below hwq
              have hbut9 := hbut8.add hwq (by have := HB.out.size; have := hbut7.size; simp; omega)
              have c0 := (bD.below hwq).cell 0
              simp only [List.getElem?_toArray, List.getElem?_cons_zero] at c0
              have hbel9 := hst9.bel
              have r0 := (hbel9.cell (p := ⟨bl, off + 11, none⟩) hbl).trans q0
              have r1 := (hbel9.cell (p := ⟨bl, off + 11 + 1, none⟩) hbl).trans q1
              have r2 := (hbel9.cell (p := ⟨bl, off + 11 + 2, none⟩) hbl).trans q2
              have r3 := (hbel9.cell (p := ⟨bl, off + 11 + 3, none⟩) hbl).trans q3
              have r4 := (hbel9.cell (p := ⟨bl, off + 11 + 4, none⟩) hbl).trans q4
              have r5 := (hbel9.cell (p := ⟨bl, off + 11 + 5, none⟩) hbl).trans q5
              have r6 := (hbel9.cell (p := ⟨bl, off + 11 + 6, none⟩) hbl).trans q6
              have r7 := (hbel9.cell (p := ⟨bl, off + 11 + 7, none⟩) hbl).trans q7
              have r8 := (hbel9.cell (p := ⟨bl, off + 11 + 8, none⟩) hbl).trans q8
              have r9 := (hbel9.cell (p := ⟨bl, off + 11 + 9, none⟩) hbl).trans q9
              have r10 := (hbel9.cell (p := ⟨bl, off + 11 + 10, none⟩) hbl).trans q10
              clear k0 k1 k2 c1 c2 hst8 hbut8 bD hbel9 z0 z1 z2 z3 z4 z5 z6 z7 z8 z9 z10 q0 q1 q2 q3 q4 q5 q6 q7 q8 q9 q10
              go_wp2_with (first
                | (go_at_call 19; (with_reducible refine (HCB.out _ _ hst9).mono ?_); rintro e w10 ⟨rfl, hbut10, v10, m10, hm10, hok10, hst10⟩; rw [List.drop_drop] at hst10; have hbut11 := hbut9.trans (hbut10.mono hbut9.size))
                | (go_at_call 92; (with_reducible refine (HCP.out _ _ _ _ (by have := HLN.out; omega) HV2.out hst10).mono ?_); rintro e w11 ⟨rfl, hbut12, v11, hst11⟩; rw [List.drop_drop] at hst11; have hbut13 := hbut11.trans (hbut12.mono hbut11.size)))
              go_ret
              exact ⟨rfl, hbut13, v11, _, by have := HN.out; omega, fun h => by have := HN.out; have := hok10 h; omega, hst11⟩
            · rw [if_neg hci] at HV
              have HV2 : Hid (ExsV w0 (.slice (some ⟨bl, off + 22, none⟩) (N' - 2) (c' - 2)) l) := HV.out
              clear HV
              have hTY := as_yes
              go_wp2_with (go_at_call 19; (with_reducible refine HC.out.mono ?_); rintro e w7 ⟨rfl, hbut7, v7, hst7⟩; have hbut8 := (HB.out.trans (hbut7.mono HB.out.size)).alloc (by have := HB.out.size; have := hbut7.size; omega) (.cells #[.int .i64 1, .int .i64 1, .string noText] 27); have hst8 := hst7.below ((Below.refl _ w7).alloc (Nat.le_refl _) (.cells #[.int .i64 1, .int .i64 1, .string noText] 27)); have bD := Blk.new w7 #[.int .i64 1, .int .i64 1, .string noText] 27; have c0 := bD.cell 0; have c1 := bD.cell 1; have c2 := bD.cell 2; simp only [List.getElem?_toArray, List.getElem?_cons_zero, List.getElem?_cons_succ] at c0 c1 c2; have k0 := fun n : Kept (w7.alloc (.cells #[.int .i64 1, .int .i64 1, .string noText] 27)) => n.cell c0; have k1 := fun n : Kept (w7.alloc (.cells #[.int .i64 1, .int .i64 1, .string noText] 27)) => n.cell c1; have k2 := fun n : Kept (w7.alloc (.cells #[.int .i64 1, .int .i64 1, .string noText] 27)) => n.cell c2)
              refine wp_region_kept (by kernel_rfl) (by kernel_rfl) ?_
              repeat (go_big_quiet_step ((go_at_call 91; (with_reducible exact Calls.kept (etruth_any _ _)))))
              refine wpQuiet_nil ?_
              intro wk hw'
              obtain ⟨⟨wq, hwq⟩, hw''⟩ := hw'
              simp only at hw''
              subst hw''
              have hst9 := hst8.below hwq
              have hbut9 := hbut8.add hwq (by have := HB.out.size; have := hbut7.size; simp; omega)
              have c0 := (bD.below hwq).cell 0
              simp only [List.getElem?_toArray, List.getElem?_cons_zero] at c0
              have hbel9 := hst9.bel
              have r0 := (hbel9.cell (p := ⟨bl, off + 11, none⟩) hbl).trans q0
              have r1 := (hbel9.cell (p := ⟨bl, off + 11 + 1, none⟩) hbl).trans q1
              have r2 := (hbel9.cell (p := ⟨bl, off + 11 + 2, none⟩) hbl).trans q2
              have r3 := (hbel9.cell (p := ⟨bl, off + 11 + 3, none⟩) hbl).trans q3
              have r4 := (hbel9.cell (p := ⟨bl, off + 11 + 4, none⟩) hbl).trans q4
              have r5 := (hbel9.cell (p := ⟨bl, off + 11 + 5, none⟩) hbl).trans q5
              have r6 := (hbel9.cell (p := ⟨bl, off + 11 + 6, none⟩) hbl).trans q6
              have r7 := (hbel9.cell (p := ⟨bl, off + 11 + 7, none⟩) hbl).trans q7
              have r8 := (hbel9.cell (p := ⟨bl, off + 11 + 8, none⟩) hbl).trans q8
              have r9 := (hbel9.cell (p := ⟨bl, off + 11 + 9, none⟩) hbl).trans q9
              have r10 := (hbel9.cell (p := ⟨bl, off + 11 + 10, none⟩) hbl).trans q10
              clear k0 k1 k2 c1 c2 hst8 hbut8 bD hbel9 z0 z1 z2 z3 z4 z5 z6 z7 z8 z9 z10 q0 q1 q2 q3 q4 q5 q6 q7 q8 q9 q10
              go_wp2_with (first
                | (go_at_call 19; (with_reducible refine (HCB.out _ _ hst9).mono ?_); rintro e w10 ⟨rfl, hbut10, v10, m10, hm10, hok10, hst10⟩; rw [List.drop_drop] at hst10; have hbut11 := hbut9.trans (hbut10.mono hbut9.size))
                | (go_at_call 92; (with_reducible refine (HCP.out _ _ _ _ (by have := HLN.out; omega) HV2.out hst10).mono ?_); rintro e w11 ⟨rfl, hbut12, v11, hst11⟩; rw [List.drop_drop] at hst11; have hbut13 := hbut11.trans (hbut12.mono hbut11.size)))
              go_ret
              exact ⟨rfl, hbut13, v11, _, by have := HN.out; omega, fun h => by have := HN.out; have := hok10 h; omega, hst11⟩
        · by_cases h0 : xk = 0
          · have hd := right_null hRT h0
            injection hd with e1 e2 e3
            subst e1 e2 e3
            rw [if_neg (by decide), if_neg (by decide)] at hY
            have HY := Lib.hid hY
            have hE : ∀ w, (binOp .eql 27 (.agg #[.int .i64 0, .int .i64 0, .string noText]) (.agg #[.int .i64 1, .int .i64 1, .string noText])).run Tryz.prog w = .ok (.bool false) w := fun w => run_eq_datum 0 0 noText 1 1 noText w
            clear hY HCB HCP
            by_cases hci : c' = 2
            · rw [if_pos hci] at HV
              subst hci
              obtain rfl : N' = 2 := by omega
              have HV2 : Hid (ExsV w0 (.slice (some ⟨bl, off, none⟩) 0 0) l) := HV.out
              clear HV
              have hTY := as_yes
              go_wp2_with (go_at_call 19; (with_reducible refine HC.out.mono ?_); rintro e w7 ⟨rfl, hbut7, v7, hst7⟩; have hbut8 := (HB.out.trans (hbut7.mono HB.out.size)).alloc (by have := HB.out.size; have := hbut7.size; omega) (.cells #[.int .i64 0, .int .i64 0, .string noText] 27); have hst8 := hst7.below ((Below.refl _ w7).alloc (Nat.le_refl _) (.cells #[.int .i64 0, .int .i64 0, .string noText] 27)); have bD := Blk.new w7 #[.int .i64 0, .int .i64 0, .string noText] 27; have c0 := bD.cell 0; have c1 := bD.cell 1; have c2 := bD.cell 2; simp only [List.getElem?_toArray, List.getElem?_cons_zero, List.getElem?_cons_succ] at c0 c1 c2; have k0 := fun n : Kept (w7.alloc (.cells #[.int .i64 0, .int .i64 0, .string noText] 27)) => n.cell c0; have k1 := fun n : Kept (w7.alloc (.cells #[.int .i64 0, .int .i64 0, .string noText] 27)) => n.cell c1; have k2 := fun n : Kept (w7.alloc (.cells #[.int .i64 0, .int .i64 0, .string noText] 27)) => n.cell c2)
              refine wp_region_kept (by kernel_rfl) (by kernel_rfl) ?_
              repeat (go_big_quiet_step ((go_at_call 91; (with_reducible exact Calls.kept (etruth_any _ _)))))
              refine wpQuiet_nil ?_
              intro wk hw'
              obtain ⟨⟨wq, hwq⟩, hw''⟩ := hw'
              simp only at hw''
              subst hw''
              have hst9 := hst8.below hwq
              have hbut9 := hbut8.add hwq (by have := HB.out.size; have := hbut7.size; simp; omega)
              have c0 := (bD.below hwq).cell 0
              simp only [List.getElem?_toArray, List.getElem?_cons_zero] at c0
              have hbel9 := hst9.bel
              have r0 := (hbel9.cell (p := ⟨bl, off + 11, none⟩) hbl).trans q0
              have r1 := (hbel9.cell (p := ⟨bl, off + 11 + 1, none⟩) hbl).trans q1
              have r2 := (hbel9.cell (p := ⟨bl, off + 11 + 2, none⟩) hbl).trans q2
              have r3 := (hbel9.cell (p := ⟨bl, off + 11 + 3, none⟩) hbl).trans q3
              have r4 := (hbel9.cell (p := ⟨bl, off + 11 + 4, none⟩) hbl).trans q4
              have r5 := (hbel9.cell (p := ⟨bl, off + 11 + 5, none⟩) hbl).trans q5
              have r6 := (hbel9.cell (p := ⟨bl, off + 11 + 6, none⟩) hbl).trans q6
              have r7 := (hbel9.cell (p := ⟨bl, off + 11 + 7, none⟩) hbl).trans q7
              have r8 := (hbel9.cell (p := ⟨bl, off + 11 + 8, none⟩) hbl).trans q8
              have r9 := (hbel9.cell (p := ⟨bl, off + 11 + 9, none⟩) hbl).trans q9
              have r10 := (hbel9.cell (p := ⟨bl, off + 11 + 10, none⟩) hbl).trans q10
              clear k0 k1 k2 c1 c2 hst8 hbut8 bD hbel9 z0 z1 z2 z3 z4 z5 z6 z7 z8 z9 z10 q0 q1 q2 q3 q4 q5 q6 q7 q8 q9 q10
              go_wp2_with (go_at_call 92; (with_reducible refine (HC1.out _ _ _ (HEB.out _) (hst9.below ((Below.refl _ wk).alloc (Nat.le_refl _) (.cells #[.int .i64 b.k, .int .i64 b.t, .bool b.nl, .int .i64 b.lit.k, .int .i64 b.lit.i, .string b.lit.s, .int .i64 b.lv, .int .i64 b.col, .int .i64 b.op, .slice Bk b.kids.length bk, .slice Bs bn bs_] 30)))).mono ?_); rintro e w11 ⟨rfl, hbut12, v11, hst11⟩; rw [List.drop_drop] at hst11; have hbut13 := (hbut9.alloc (by have := hbut9.size; omega) (.cells #[.int .i64 b.k, .int .i64 b.t, .bool b.nl, .int .i64 b.lit.k, .int .i64 b.lit.i, .string b.lit.s, .int .i64 b.lv, .int .i64 b.col, .int .i64 b.op, .slice Bk b.kids.length bk, .slice Bs bn bs_] 30)).trans (hbut12.mono (by have := hbut9.size; simp; omega)))
              refine ⟨⟨l, _, _, by rw [← HlN.out], ⟨v11, m + (subsX a).length + (subsX b).length, by rw [← HlN.out]; exact HV2.out, HM.out, hst11, by have := HN.out; omega, HY.out, hbut13⟩⟩, ?_⟩
              simp [lenV]
              try omega
            · rw [if_neg hci] at HV
              have HV2 : Hid (ExsV w0 (.slice (some ⟨bl, off + 22, none⟩) (N' - 2) (c' - 2)) l) := HV.out
              clear HV
              have hTY := as_yes
              go_wp2_with (go_at_call 19; (with_reducible refine HC.out.mono ?_); rintro e w7 ⟨rfl, hbut7, v7, hst7⟩; have hbut8 := (HB.out.trans (hbut7.mono HB.out.size)).alloc (by have := HB.out.size; have := hbut7.size; omega) (.cells #[.int .i64 0, .int .i64 0, .string noText] 27); have hst8 := hst7.below ((Below.refl _ w7).alloc (Nat.le_refl _) (.cells #[.int .i64 0, .int .i64 0, .string noText] 27)); have bD := Blk.new w7 #[.int .i64 0, .int .i64 0, .string noText] 27; have c0 := bD.cell 0; have c1 := bD.cell 1; have c2 := bD.cell 2; simp only [List.getElem?_toArray, List.getElem?_cons_zero, List.getElem?_cons_succ] at c0 c1 c2; have k0 := fun n : Kept (w7.alloc (.cells #[.int .i64 0, .int .i64 0, .string noText] 27)) => n.cell c0; have k1 := fun n : Kept (w7.alloc (.cells #[.int .i64 0, .int .i64 0, .string noText] 27)) => n.cell c1; have k2 := fun n : Kept (w7.alloc (.cells #[.int .i64 0, .int .i64 0, .string noText] 27)) => n.cell c2)
              refine wp_region_kept (by kernel_rfl) (by kernel_rfl) ?_
              repeat (go_big_quiet_step ((go_at_call 91; (with_reducible exact Calls.kept (etruth_any _ _)))))
              refine wpQuiet_nil ?_
              intro wk hw'
              obtain ⟨⟨wq, hwq⟩, hw''⟩ := hw'
              simp only at hw''
              subst hw''
              have hst9 := hst8.below hwq
              have hbut9 := hbut8.add hwq (by have := HB.out.size; have := hbut7.size; simp; omega)
              have c0 := (bD.below hwq).cell 0
              simp only [List.getElem?_toArray, List.getElem?_cons_zero] at c0
              have hbel9 := hst9.bel
              have r0 := (hbel9.cell (p := ⟨bl, off + 11, none⟩) hbl).trans q0
              have r1 := (hbel9.cell (p := ⟨bl, off + 11 + 1, none⟩) hbl).trans q1
              have r2 := (hbel9.cell (p := ⟨bl, off + 11 + 2, none⟩) hbl).trans q2
              have r3 := (hbel9.cell (p := ⟨bl, off + 11 + 3, none⟩) hbl).trans q3
              have r4 := (hbel9.cell (p := ⟨bl, off + 11 + 4, none⟩) hbl).trans q4
              have r5 := (hbel9.cell (p := ⟨bl, off + 11 + 5, none⟩) hbl).trans q5
              have r6 := (hbel9.cell (p := ⟨bl, off + 11 + 6, none⟩) hbl).trans q6
              have r7 := (hbel9.cell (p := ⟨bl, off + 11 + 7, none⟩) hbl).trans q7
              have r8 := (hbel9.cell (p := ⟨bl, off + 11 + 8, none⟩) hbl).trans q8
              have r9 := (hbel9.cell (p := ⟨bl, off + 11 + 9, none⟩) hbl).trans q9
              have r10 := (hbel9.cell (p := ⟨bl, off + 11 + 10, none⟩) hbl).trans q10
              clear k0 k1 k2 c1 c2 hst8 hbut8 bD hbel9 z0 z1 z2 z3 z4 z5 z6 z7 z8 z9 z10 q0 q1 q2 q3 q4 q5 q6 q7 q8 q9 q10
              go_wp2_with (go_at_call 92; (with_reducible refine (HC1.out _ _ _ (HEB.out _) (hst9.below ((Below.refl _ wk).alloc (Nat.le_refl _) (.cells #[.int .i64 b.k, .int .i64 b.t, .bool b.nl, .int .i64 b.lit.k, .int .i64 b.lit.i, .string b.lit.s, .int .i64 b.lv, .int .i64 b.col, .int .i64 b.op, .slice Bk b.kids.length bk, .slice Bs bn bs_] 30)))).mono ?_); rintro e w11 ⟨rfl, hbut12, v11, hst11⟩; rw [List.drop_drop] at hst11; have hbut13 := (hbut9.alloc (by have := hbut9.size; omega) (.cells #[.int .i64 b.k, .int .i64 b.t, .bool b.nl, .int .i64 b.lit.k, .int .i64 b.lit.i, .string b.lit.s, .int .i64 b.lv, .int .i64 b.col, .int .i64 b.op, .slice Bk b.kids.length bk, .slice Bs bn bs_] 30)).trans (hbut12.mono (by have := hbut9.size; simp; omega)))
              refine ⟨⟨l, _, _, by rw [← HlN.out], ⟨v11, m + (subsX a).length + (subsX b).length, by rw [← HlN.out]; exact HV2.out, HM.out, hst11, by have := HN.out; omega, HY.out, hbut13⟩⟩, ?_⟩
              simp [lenV]
              try omega
          · rw [if_pos (by have := rightD_kind _ hRT; simp only at this; omega)] at hY
            have HY := Lib.hid hY
            have hE := fun w => run_eq_datum xk xi xs 1 1 noText w
            have hd : decide (xk = 1 ∧ xi = 1 ∧ xs = noText) = false := decide_eq_false (fun h => h1 h.1)
            simp only [hd] at hE
            have n1 : (xk != 1) = true := by simpa using h1
            have n0 : (xk != 0) = true := by simpa using h0
            clear hY HC1 HEB HCB HCP HV hd h0 h1 hRT
            have hTY := as_yes
            go_wp2_with (go_at_call 19; (with_reducible refine HC.out.mono ?_); rintro e w7 ⟨rfl, hbut7, v7, hst7⟩; have hbut8 := (HB.out.trans (hbut7.mono HB.out.size)).alloc (by have := HB.out.size; have := hbut7.size; omega) (.cells #[.int .i64 xk, .int .i64 xi, .string xs] 27); have hst8 := hst7.below ((Below.refl _ w7).alloc (Nat.le_refl _) (.cells #[.int .i64 xk, .int .i64 xi, .string xs] 27)); have bD := Blk.new w7 #[.int .i64 xk, .int .i64 xi, .string xs] 27; have c0 := bD.cell 0; have c1 := bD.cell 1; have c2 := bD.cell 2; simp only [List.getElem?_toArray, List.getElem?_cons_zero, List.getElem?_cons_succ] at c0 c1 c2; have k0 := fun n : Kept (w7.alloc (.cells #[.int .i64 xk, .int .i64 xi, .string xs] 27)) => n.cell c0; have k1 := fun n : Kept (w7.alloc (.cells #[.int .i64 xk, .int .i64 xi, .string xs] 27)) => n.cell c1; have k2 := fun n : Kept (w7.alloc (.cells #[.int .i64 xk, .int .i64 xi, .string xs] 27)) => n.cell c2)
            refine wp_region_kept (by kernel_rfl) (by kernel_rfl) ?_
            repeat (go_big_quiet_step ((go_at_call 91; (with_reducible exact Calls.kept (etruth_any _ _)))))
            refine wpQuiet_nil ?_
            intro wk hw'
            obtain ⟨⟨wq, hwq⟩, hw''⟩ := hw'
            simp only at hw''
            subst hw''
            have hst9 := hst8.below hwq
            have hbut9 := hbut8.add hwq (by have := HB.out.size; have := hbut7.size; simp; omega)
            have c0 := (bD.below hwq).cell 0
            simp only [List.getElem?_toArray, List.getElem?_cons_zero] at c0
            have hbel9 := hst9.bel
            clear k0 k1 k2 c1 c2 hst8 hbut8 bD hbel9 z0 z1 z2 z3 z4 z5 z6 z7 z8 z9 z10 q0 q1 q2 q3 q4 q5 q6 q7 q8 q9 q10
            go_wp2_with fail
            go_ret
            exact ⟨by rw [← HY.out]; rfl, hbut9, _, m + (subsX a).length, by have := HN.out; omega, fun h => by rw [← HY.out] at h; exact absurd h (by decide), hst9⟩
end Go.Proofs.YtippffjhkinfoaaGreatDoor

namespace Go.Proofs.YtippffjhkinfoaaGreatDoor
open Go.RowKit

set_option maxRecDepth 100000 in
set_option maxHeartbeats 8000000 in
theorem first_any {w0 : World} {env : Env} {p : Nat} {vE : Value} {L0 : List Ex} (hK : Kids w0 env p vE L0) (vk : Value) (hv : ExsV w0 vk L0) {w : World} {v : Value} {S : List Dat} (h : WSt w0 w p vE v S) (hS : (subsXs L0).length ≤ S.length) (hRI : RI S) :
    Calls Tryz.prog 64 #[.pointer (some ⟨p, 0, none⟩), vk] w (WPost (othX 17 0 [] (valXs env L0 S)) (subsXs L0).length w0 p vE S w) := by
  obtain ⟨A, c, rfl, hc, hm⟩ := hv.slice
  obtain ⟨Y, hY⟩ : ∃ Y, othX 17 0 [] (valXs env L0 S) = Y := ⟨_, rfl⟩
  obtain ⟨N, hN⟩ : ∃ N, (subsXs L0).length = N := ⟨_, rfl⟩
  rw [hY, hN]
  rw [hN] at hS
  have HI0 : Hid (∃ v m acc, WSt w0 w p vE v (S.drop m) ∧ m + (subsXs (L0.drop 0)).length = N ∧ othX 17 0 acc (valXs env (L0.drop 0) (S.drop m)) = Y ∧ ButB p w.heap.size w w) :=
    ⟨v, 0, [], by rw [List.drop_zero]; exact h, by rw [List.drop_zero, hN, Nat.zero_add], by rw [List.drop_zero, List.drop_zero]; exact hY, ButB.refl _ _ _⟩
  have HRI := Lib.hid hRI
  have HS := Lib.hid hS
  have HK := Lib.hid hK
  have HV := Lib.hid hv
  clear hY hN hS hRI h hv hK
  go_enter Tryz.func64, Tryz.ntmps64
  go_wp2_with fail
  go_loopw [12] (fun u wr => ∃ n : Nat, u = .int .i64 n ∧ n ≤ L0.length ∧ Hid (∃ v m acc, WSt w0 wr p vE v (S.drop m) ∧ m + (subsXs (L0.drop n)).length = N ∧ othX 17 n acc (valXs env (L0.drop n) (S.drop m)) = Y ∧ ButB p w.heap.size w wr)) (fun u _ => L0.length - (intOf u).toNat)
  case atStart => exact ⟨0, rfl, Nat.zero_le _, HI0⟩
  case round =>
    clear HI0
    obtain ⟨n, rfl, hn, HI⟩ := hrel
    by_cases hlt : n < L0.length
    · obtain ⟨v', m, acc, hst, hN, hY, hbut⟩ := HI.out
      rw [List.drop_eq_getElem_cons hlt] at hN hY
      obtain ⟨⟨Ak, ak, hkv⟩, ⟨An, an, as_, hsv⟩, hk1⟩ := HK.out.shape L0[n] (List.getElem_mem hlt)
      rw [valXs_more env _ _ _ hk1, List.drop_drop, othX] at hY
      rw [subsXs_cons, List.length_append] at hN
      obtain ⟨bl, off, hA, hbl, x0, x1, x2, x3, x4, x5, x6, x7, x8, x9, x10⟩ := HV.out.nth n hlt
      rw [hkv] at x9
      rw [hsv] at x10
      have hbel := hst.bel
      have z0 := (hbel.cell (p := ⟨bl, off + n * 11, none⟩) hbl).trans x0
      have z1 := (hbel.cell (p := ⟨bl, off + n * 11 + 1, none⟩) hbl).trans x1
      have z2 := (hbel.cell (p := ⟨bl, off + n * 11 + 2, none⟩) hbl).trans x2
      have z3 := (hbel.cell (p := ⟨bl, off + n * 11 + 3, none⟩) hbl).trans x3
      have z4 := (hbel.cell (p := ⟨bl, off + n * 11 + 4, none⟩) hbl).trans x4
      have z5 := (hbel.cell (p := ⟨bl, off + n * 11 + 5, none⟩) hbl).trans x5
      have z6 := (hbel.cell (p := ⟨bl, off + n * 11 + 6, none⟩) hbl).trans x6
      have z7 := (hbel.cell (p := ⟨bl, off + n * 11 + 7, none⟩) hbl).trans x7
      have z8 := (hbel.cell (p := ⟨bl, off + n * 11 + 8, none⟩) hbl).trans x8
      have z9 := (hbel.cell (p := ⟨bl, off + n * 11 + 9, none⟩) hbl).trans x9
      have z10 := (hbel.cell (p := ⟨bl, off + n * 11 + 10, none⟩) hbl).trans x10
      have hrest := HV.out.rest (n + 1) (by omega) hc
      have hlen : m + (subsX L0[n]).length + (subsXs (L0.drop (n + 1))).length ≤ S.length := by have := HS.out; omega
      have hC : ∀ w' v', WSt w0 w' p vE v' (S.drop m) → Calls Tryz.prog 19 #[.pointer (some ⟨p, 0, none⟩), exVal L0[n]] w' (WPost (valX env L0[n] (S.drop m)) (subsX L0[n]).length w0 p vE (S.drop m) w') :=
        fun w' v' hs => HK.out.worth _ (List.getElem_mem hlt) w' v' _ hs (by rw [List.length_drop]; omega) (HRI.out.drop m)
      have hRT := HK.out.right _ (List.getElem_mem hlt) (S.drop m) (HRI.out.drop m)
      have HCP : Hid (∀ vm w' v' k, k + (subsXs (L0.drop (n + 1))).length ≤ S.length → ExsV w0 vm (L0.drop (n + 1)) → WSt w0 w' p vE v' (S.drop k) → Calls Tryz.prog 92 #[.pointer (some ⟨p, 0, none⟩), vm] w' (PPost (subsXs (L0.drop (n + 1))).length w0 p vE (S.drop k) w')) :=
        fun vm w' v' k hk hvm hs => HK.out.pass _ vm w' v' _ (fun x hx => List.mem_of_mem_drop hx) (hvm.below hs.bel) hs (by rw [List.length_drop]; omega)
      obtain ⟨nl, hnl⟩ : ∃ nl, (subsXs (L0.drop (n + 1))).length = nl := ⟨_, rfl⟩
      rw [hnl] at HCP hN hlen
      have HNL := Lib.hid hnl
      have HN := Lib.hid hN
      have HLN := Lib.hid hlen
      have HB := Lib.hid hbut
      have HBV := Lib.hid hst
      unfold exVal at hC
      rw [hkv, hsv] at hC
      clear hnl hst hN hbut hlen HI hkv hsv hk1 x0 x1 x2 x3 x4 x5 x6 x7 x8 x9 x10 hbel
      have hn9 : (n : Int) + 1 ≤ 9223372036854775807 := by unfold maxLen at hm; omega
      have hlt' : (n : Int) < L0.length := by omega
      have hlt2 : (n : Int) + 1 ≤ L0.length := by omega
      have hcc2 : (L0.length : Int) ≤ c := by omega
      have ht : ((n : Int) + 1).toNat = n + 1 := by omega
      have HLT := Lib.hid hlt
      have HHM := Lib.hid hm
      subst hA
      revert z0 z1 z2 z3 z4 z5 z6 z7 z8 z9 z10 hY hC hRT HCP HN HLN
      generalize hXX : valX env L0[n] (S.drop m) = x
      generalize L0[n] = a
      clear hXX
      obtain ⟨⟨xk, xi, xs⟩, xf⟩ := x
      intro hY z0 z1 z2 z3 z4 z5 z6 z7 z8 z9 z10 hC hRT HCP HN HLN
      simp only at hY hRT
      have hTY := as_yes
      have hTN := as_no
      by_cases hf : xf ≠ 0
      · have HC : Hid (∀ w' v', WSt w0 w' p vE v' (S.drop m) → Calls Tryz.prog 19 #[.pointer (some ⟨p, 0, none⟩), .agg #[.int .i64 a.k, .int .i64 a.t, .bool a.nl, .int .i64 a.lit.k, .int .i64 a.lit.i, .string a.lit.s, .int .i64 a.lv, .int .i64 a.col, .int .i64 a.op, .slice Ak a.kids.length ak, .slice An an as_]] w' (fun e w2 => e = .returned (.iface 33 (.int .i64 xf)) ∧ ButB p w'.heap.size w' w2 ∧ ∃ v' m', m' ≤ (subsX a).length ∧ WSt w0 w2 p vE v' (S.drop (m + m')))) := by
          intro w' v' hs
          refine (hC w' v' hs).mono ?_
          rintro e w7 ⟨rfl, h2, v2, m2, h3, _, h5⟩
          exact ⟨by rw [ifX_err hf], h2, v2, m2, h3, by rw [← List.drop_drop]; exact h5⟩
        clear hC
        rw [if_pos hf] at hY
        have HY := Lib.hid hY
        have HF := Lib.hid hf
        clear hY hRT hf
        by_cases hci : c = n + 1
        · rw [if_pos hci] at hrest
          have hLN : L0.length = n + 1 := by omega
          have HV2 : Hid (ExsV w0 (.slice (some ⟨bl, off, none⟩) 0 0) (L0.drop (n + 1))) := by
            rw [hLN, hci, Nat.sub_self] at hrest
            exact hrest
          subst hci
          clear hrest hLN
          go_wp2_with (first
            | (go_at_call 19; (with_reducible refine (HC.out _ _ (HBV.out.below ((Below.refl _ wr).alloc (Nat.le_refl _) (.cells #[.int .i64 a.k, .int .i64 a.t, .bool a.nl, .int .i64 a.lit.k, .int .i64 a.lit.i, .string a.lit.s, .int .i64 a.lv, .int .i64 a.col, .int .i64 a.op, .slice Ak a.kids.length ak, .slice An an as_] 30)))).mono ?_); rintro e w7 ⟨rfl, hbut7, v7, m7, hm7, hst7⟩; have hbut8 := (((HB.out.alloc HB.out.size (.cells #[.int .i64 a.k, .int .i64 a.t, .bool a.nl, .int .i64 a.lit.k, .int .i64 a.lit.i, .string a.lit.s, .int .i64 a.lv, .int .i64 a.col, .int .i64 a.op, .slice Ak a.kids.length ak, .slice An an as_] 30)).trans (hbut7.mono (by have := HB.out.size; simp; omega))).alloc (by have := HB.out.size; have := hbut7.size; simp at this; omega) (.cells #[.int .i64 0, .int .i64 0, .string noText] 27)); have hst8 := hst7.below ((Below.refl _ w7).alloc (Nat.le_refl _) (.cells #[.int .i64 0, .int .i64 0, .string noText] 27)))
            | (go_at_call 92; (with_reducible refine (HCP.out _ _ _ _ (by have := HLN.out; omega) HV2.out hst8).mono ?_); rintro e w11 ⟨rfl, hbut12, v11, hst11⟩; rw [List.drop_drop] at hst11; have hbut13 := hbut8.trans (hbut12.mono hbut8.size)))
          go_ret
          exact ⟨by rw [← HY.out, ifX_err (x := nulX xf) HF.out]; rfl, hbut13, v11, _, by have := HN.out; omega, fun h => by rw [← HY.out] at h; exact absurd h HF.out, hst11⟩
        · rw [if_neg hci] at hrest
          have HV2 : Hid (ExsV w0 (.slice (some ⟨bl, off + (n + 1) * 11, none⟩) (L0.length - (n + 1)) (c - (n + 1))) (L0.drop (n + 1))) := hrest
          clear hrest
          go_wp2_with (first
            | (go_at_call 19; (with_reducible refine (HC.out _ _ (HBV.out.below ((Below.refl _ wr).alloc (Nat.le_refl _) (.cells #[.int .i64 a.k, .int .i64 a.t, .bool a.nl, .int .i64 a.lit.k, .int .i64 a.lit.i, .string a.lit.s, .int .i64 a.lv, .int .i64 a.col, .int .i64 a.op, .slice Ak a.kids.length ak, .slice An an as_] 30)))).mono ?_); rintro e w7 ⟨rfl, hbut7, v7, m7, hm7, hst7⟩; have hbut8 := (((HB.out.alloc HB.out.size (.cells #[.int .i64 a.k, .int .i64 a.t, .bool a.nl, .int .i64 a.lit.k, .int .i64 a.lit.i, .string a.lit.s, .int .i64 a.lv, .int .i64 a.col, .int .i64 a.op, .slice Ak a.kids.length ak, .slice An an as_] 30)).trans (hbut7.mono (by have := HB.out.size; simp; omega))).alloc (by have := HB.out.size; have := hbut7.size; simp at this; omega) (.cells #[.int .i64 0, .int .i64 0, .string noText] 27)); have hst8 := hst7.below ((Below.refl _ w7).alloc (Nat.le_refl _) (.cells #[.int .i64 0, .int .i64 0, .string noText] 27)))
            | (go_at_call 92; (with_reducible refine (HCP.out _ _ _ _ (by have := HLN.out; omega) HV2.out hst8).mono ?_); rintro e w11 ⟨rfl, hbut12, v11, hst11⟩; rw [List.drop_drop] at hst11; have hbut13 := hbut8.trans (hbut12.mono hbut8.size)))
          go_ret
          exact ⟨by rw [← HY.out, ifX_err (x := nulX xf) HF.out]; rfl, hbut13, v11, _, by have := HN.out; omega, fun h => by rw [← HY.out] at h; exact absurd h HF.out, hst11⟩
      · rw [Classical.not_not] at hf
        subst hf
        rw [if_neg (by simp)] at hY
        have HC : Hid (∀ w' v', WSt w0 w' p vE v' (S.drop m) → Calls Tryz.prog 19 #[.pointer (some ⟨p, 0, none⟩), .agg #[.int .i64 a.k, .int .i64 a.t, .bool a.nl, .int .i64 a.lit.k, .int .i64 a.lit.i, .string a.lit.s, .int .i64 a.lv, .int .i64 a.col, .int .i64 a.op, .slice Ak a.kids.length ak, .slice An an as_]] w' (fun e w2 => e = .returned (.iface 27 (.agg #[.int .i64 xk, .int .i64 xi, .string xs])) ∧ ButB p w'.heap.size w' w2 ∧ ∃ v', WSt w0 w2 p vE v' (S.drop (m + (subsX a).length)))) := by
          intro w' v' hs
          refine (hC w' v' hs).mono ?_
          rintro e w7 ⟨rfl, h2, v2, m2, h3, h4, h5⟩
          have h6 := h4 rfl
          subst h6
          exact ⟨by rw [ifX_ok rfl], h2, v2, by rw [← List.drop_drop]; exact h5⟩
        clear hC
        by_cases h0 : xk = 0
        · rw [if_neg (fun h => h.2 h0), setX_other _ (by decide) (by decide), if_neg (fun h => absurd h.1 (by decide))] at hY
          have HY := Lib.hid hY
          subst h0
          clear hY hRT hrest HCP
          go_wp2_with (go_at_call 19; (with_reducible refine (HC.out _ _ (HBV.out.below ((Below.refl _ wr).alloc (Nat.le_refl _) (.cells #[.int .i64 a.k, .int .i64 a.t, .bool a.nl, .int .i64 a.lit.k, .int .i64 a.lit.i, .string a.lit.s, .int .i64 a.lv, .int .i64 a.col, .int .i64 a.op, .slice Ak a.kids.length ak, .slice An an as_] 30)))).mono ?_); rintro e w7 ⟨rfl, hbut7, v7, hst7⟩; have hbut8 := (((HB.out.alloc HB.out.size (.cells #[.int .i64 a.k, .int .i64 a.t, .bool a.nl, .int .i64 a.lit.k, .int .i64 a.lit.i, .string a.lit.s, .int .i64 a.lv, .int .i64 a.col, .int .i64 a.op, .slice Ak a.kids.length ak, .slice An an as_] 30)).trans (hbut7.mono (by have := HB.out.size; simp; omega))).alloc (by have := HB.out.size; have := hbut7.size; simp at this; omega) (.cells #[.int .i64 0, .int .i64 xi, .string xs] 27)); have hst8 := hst7.below ((Below.refl _ w7).alloc (Nat.le_refl _) (.cells #[.int .i64 0, .int .i64 xi, .string xs] 27)))
          refine ⟨⟨n + 1, by go_num, HLT.out, ⟨_, _, _, hst8, by rw [HNL.out]; have := HN.out; omega, HY.out, hbut8⟩⟩, ?_⟩
          simp [intOf]
          try go_num
        · rw [if_pos ⟨trivial, h0⟩] at hY
          have HY := Lib.hid hY
          have n0 : (xk != 0) = true := by simpa using h0
          clear hY hRT h0
          by_cases hci : c = n + 1
          · rw [if_pos hci] at hrest
            have hLN : L0.length = n + 1 := by omega
            have HV2 : Hid (ExsV w0 (.slice (some ⟨bl, off, none⟩) 0 0) (L0.drop (n + 1))) := by
              rw [hLN, hci, Nat.sub_self] at hrest
              exact hrest
            subst hci
            clear hrest hLN
            go_wp2_with (first
              | (go_at_call 19; (with_reducible refine (HC.out _ _ (HBV.out.below ((Below.refl _ wr).alloc (Nat.le_refl _) (.cells #[.int .i64 a.k, .int .i64 a.t, .bool a.nl, .int .i64 a.lit.k, .int .i64 a.lit.i, .string a.lit.s, .int .i64 a.lv, .int .i64 a.col, .int .i64 a.op, .slice Ak a.kids.length ak, .slice An an as_] 30)))).mono ?_); rintro e w7 ⟨rfl, hbut7, v7, hst7⟩; have hbut8 := (((HB.out.alloc HB.out.size (.cells #[.int .i64 a.k, .int .i64 a.t, .bool a.nl, .int .i64 a.lit.k, .int .i64 a.lit.i, .string a.lit.s, .int .i64 a.lv, .int .i64 a.col, .int .i64 a.op, .slice Ak a.kids.length ak, .slice An an as_] 30)).trans (hbut7.mono (by have := HB.out.size; simp; omega))).alloc (by have := HB.out.size; have := hbut7.size; simp at this; omega) (.cells #[.int .i64 xk, .int .i64 xi, .string xs] 27)); have hst8 := hst7.below ((Below.refl _ w7).alloc (Nat.le_refl _) (.cells #[.int .i64 xk, .int .i64 xi, .string xs] 27)))
              | (go_at_call 92; (with_reducible refine (HCP.out _ _ _ _ (by have := HLN.out; omega) HV2.out hst8).mono ?_); rintro e w11 ⟨rfl, hbut12, v11, hst11⟩; rw [List.drop_drop] at hst11; have hbut13 := hbut8.trans (hbut12.mono hbut8.size)))
            go_ret
            exact ⟨by rw [← HY.out]; rfl, hbut13, v11, _, by have := HN.out; omega, fun _ => by have := HN.out; omega, hst11⟩
          · rw [if_neg hci] at hrest
            have HV2 : Hid (ExsV w0 (.slice (some ⟨bl, off + (n + 1) * 11, none⟩) (L0.length - (n + 1)) (c - (n + 1))) (L0.drop (n + 1))) := hrest
            clear hrest
            go_wp2_with (first
              | (go_at_call 19; (with_reducible refine (HC.out _ _ (HBV.out.below ((Below.refl _ wr).alloc (Nat.le_refl _) (.cells #[.int .i64 a.k, .int .i64 a.t, .bool a.nl, .int .i64 a.lit.k, .int .i64 a.lit.i, .string a.lit.s, .int .i64 a.lv, .int .i64 a.col, .int .i64 a.op, .slice Ak a.kids.length ak, .slice An an as_] 30)))).mono ?_); rintro e w7 ⟨rfl, hbut7, v7, hst7⟩; have hbut8 := (((HB.out.alloc HB.out.size (.cells #[.int .i64 a.k, .int .i64 a.t, .bool a.nl, .int .i64 a.lit.k, .int .i64 a.lit.i, .string a.lit.s, .int .i64 a.lv, .int .i64 a.col, .int .i64 a.op, .slice Ak a.kids.length ak, .slice An an as_] 30)).trans (hbut7.mono (by have := HB.out.size; simp; omega))).alloc (by have := HB.out.size; have := hbut7.size; simp at this; omega) (.cells #[.int .i64 xk, .int .i64 xi, .string xs] 27)); have hst8 := hst7.below ((Below.refl _ w7).alloc (Nat.le_refl _) (.cells #[.int .i64 xk, .int .i64 xi, .string xs] 27)))
              | (go_at_call 92; (with_reducible refine (HCP.out _ _ _ _ (by have := HLN.out; omega) HV2.out hst8).mono ?_); rintro e w11 ⟨rfl, hbut12, v11, hst11⟩; rw [List.drop_drop] at hst11; have hbut13 := hbut8.trans (hbut12.mono hbut8.size)))
            go_ret
            exact ⟨by rw [← HY.out]; rfl, hbut13, v11, _, by have := HN.out; omega, fun _ => by have := HN.out; omega, hst11⟩
    · obtain ⟨v', m, acc, hst, hN, hY, hbut⟩ := HI.out
      rw [List.drop_eq_nil_of_le (by omega), valXs_nil, othX, if_pos rfl] at hY
      rw [List.drop_eq_nil_of_le (by omega), subsXs_nil] at hN
      have HZ := Lib.hid hN
      have HS' := Lib.hid hst
      have HB := Lib.hid hbut
      have HY := Lib.hid hY
      clear hst hN hY hbut HI
      go_wp2_with fail
      go_ret
      exact ⟨by rw [← HY.out]; rfl, HB.out, v', m, by have := HZ.out; simp at this; omega, fun _ => by have := HZ.out; simp at this; omega, HS'.out⟩

end Go.Proofs.YtippffjhkinfoaaGreatDoor

namespace Go.Proofs.YtippffjhkinfoaaGreatDoor
open Go.RowKit

/-- The first so many of N new values are told. -/
def ArgsB (w : World) (q N : Nat) (L : List Dat) : Prop := ∃ cs, Blk w q cs 27 ∧ cs.size = N * 3 ∧ ∀ i x, L[i]? = some x → ∀ r u, (encDat x)[r]? = some u → cs[i * 3 + r]? = some u
theorem ArgsB.make (w : World) (N : Nat) : ArgsB (w.alloc (.cells (madeCells #[.int .i64 0, .int .i64 0, .string noText] (N * 3)) 27)) w.heap.size N [] :=
  ⟨_, Blk.new _ _ _, size_madeCells _ _, fun i x h => by simp at h⟩
theorem ArgsB.below {w w' : World} {q N : Nat} {L : List Dat} (h : ArgsB w q N L) (hb : Below w.heap.size w w') : ArgsB w' q N L := by
  obtain ⟨cs, h1, h2⟩ := h
  exact ⟨cs, h1.below hb, h2⟩
theorem ArgsB.but {p B : Nat} {w w' : World} {q N : Nat} {L : List Dat} (h : ArgsB w q N L) (hb : ButB p B w w') (hq : q < B) (hp : q ≠ p) : ArgsB w' q N L := by
  obtain ⟨cs, h1, h2⟩ := h
  exact ⟨cs, h1.but hb hq hp, h2⟩
theorem ArgsB.cellAt {w : World} {q N : Nat} {L : List Dat} (h : ArgsB w q N L) (j : Nat) (hj : j < N * 3) : ∃ u, w.cell? ⟨q, j, none⟩ = some u := by
  obtain ⟨cs, h1, h2, _⟩ := h
  exact ⟨_, by rw [h1.cell, Array.getElem?_eq_getElem (by omega)]⟩
theorem ArgsB.frozen {w : World} {q N : Nat} {L : List Dat} (h : ArgsB w q N L) (j : Nat) : w.frozen? ⟨q, j, none⟩ = false := by
  obtain ⟨cs, h1, _⟩ := h
  exact h1.frozen j
theorem ArgsB.lt {w : World} {q N : Nat} {L : List Dat} (h : ArgsB w q N L) : q < w.heap.size := by
  obtain ⟨cs, h1, _⟩ := h
  exact h1.lt
theorem ArgsB.put {w : World} {q N : Nat} {L : List Dat} (h : ArgsB w q N L) (n : Nat) (hL : L.length = n) (hn : n < N) (d : Dat) :
    ArgsB (((w.setCell ⟨q, n * 3, none⟩ (.int .i64 d.k)).setCell ⟨q, n * 3 + 1, none⟩ (.int .i64 d.i)).setCell ⟨q, n * 3 + 2, none⟩ (.string d.s)) q N (L ++ [d]) := by
  obtain ⟨cs, h1, h2, h3⟩ := h
  refine ⟨_, ((h1.set _ _).set _ _).set _ _, by simp [h2], ?_⟩
  intro i x hi r u hr
  have hr3 : r < 3 := by have := (List.getElem?_eq_some_iff.mp hr).1; simpa [encDat] using this
  rw [Array.getElem?_setIfInBounds, Array.getElem?_setIfInBounds, Array.getElem?_setIfInBounds]
  simp only [Array.size_setIfInBounds, h2]
  by_cases hin : i < n
  · rw [List.getElem?_append_left (by omega)] at hi
    rw [if_neg (by omega), if_neg (by omega), if_neg (by omega)]
    exact h3 i x hi r u hr
  · have hil : i < (L ++ [d]).length := (List.getElem?_eq_some_iff.mp hi).1
    rw [List.length_append, List.length_singleton] at hil
    obtain rfl : i = n := by omega
    rw [List.getElem?_append_right (by omega), hL, Nat.sub_self] at hi
    simp only [List.getElem?_cons_zero, Option.some.injEq] at hi
    subst hi
    have hc : r = 0 ∨ r = 1 ∨ r = 2 := by omega
    rcases hc with rfl | rfl | rfl
    · rw [if_neg (by omega), if_neg (by omega), if_pos (by omega), if_pos (by omega)]
      simpa [encDat] using hr
    · rw [if_neg (by omega), if_pos (by omega), if_pos (by omega)]
      simpa [encDat] using hr
    · rw [if_pos (by omega), if_pos (by omega)]
      simpa [encDat] using hr
theorem ArgsB.val {w : World} {q N : Nat} {L : List Dat} (h : ArgsB w q N L) (hl : L.length = N) (hN : N ≤ maxLen) : DatV w (.slice (some ⟨q, 0, none⟩) N N) L := by
  have hq := h.lt
  obtain ⟨cs, h1, h2, h3⟩ := h
  refine .inr ⟨q, 0, N, by rw [hl], by omega, hq, ?_, by omega⟩
  intro i x hi r u hr
  rw [h1.cell, Nat.zero_add]
  exact h3 i x hi r u hr
theorem WSt.other {w0 w : World} {p : Nat} {vE v : Value} {S : List Dat} (h : WSt w0 w p vE v S) {q : Nat} (hq : w0.heap.size ≤ q) (hp : q ≠ p) (j : Nat) (u : Value) : WSt w0 (w.setCell ⟨q, j, none⟩ u) p vE v S :=
  ⟨h.blk.setOther hp j u, h.val, h.base, h.bel.setCell hq u⟩

set_option maxRecDepth 100000 in
set_option maxHeartbeats 8000000 in
theorem oper_any {w0 : World} {env : Env} {p : Nat} {vE : Value} {L0 : List Ex} (hK : Kids w0 env p vE L0) (op : Int) (h17 : op ≠ 17) (hT : Tabs w0) (hL : L0.length ≤ 1048576) (vk : Value) (hv : ExsV w0 vk L0) {w : World} {v : Value} {S : List Dat} (h : WSt w0 w p vE v S) (hS : (subsXs L0).length ≤ S.length) (hRI : RI S) :
    Calls Tryz.prog 65 #[.pointer (some ⟨p, 0, none⟩), .int .i64 op, vk] w (WPost (othX op 0 [] (valXs env L0 S)) (subsXs L0).length w0 p vE S w) := by
  obtain ⟨A, c, rfl, hc, hm⟩ := hv.slice
  obtain ⟨Y, hY⟩ : ∃ Y, othX op 0 [] (valXs env L0 S) = Y := ⟨_, rfl⟩
  obtain ⟨N, hN⟩ : ∃ N, (subsXs L0).length = N := ⟨_, rfl⟩
  rw [hY, hN]
  rw [hN] at hS
  obtain ⟨i0, hi, hz0, hz1, hz2⟩ := info_parts infoDat
  have hMk : (Instr.makeSlice 25 (.int .i64 (L0.length : Int)) (.int .i64 (L0.length : Int))).run Tryz.prog w = .ok (.slice (some ⟨w.heap.size, 0, none⟩) L0.length L0.length) (w.alloc (.cells (madeCells #[.int .i64 0, .int .i64 0, .string noText] (L0.length * 3)) 27)) := by
    have h := run_make (P := Tryz.prog) w 25 27 i0 _ Tryz.underlying25 hi hz0 .i64 .i64 L0.length L0.length (by omega) (Int.le_refl _) (by rw [hz2]; omega) (by omega)
    rw [hz1, Int.toNat_natCast] at h
    exact h
  have hb1 := (Below.refl w.heap.size w).alloc (Nat.le_refl _) (.cells (madeCells #[.int .i64 0, .int .i64 0, .string noText] (L0.length * 3)) 27)
  have HI0 : Hid (∃ v m acc, WSt w0 (w.alloc (.cells (madeCells #[.int .i64 0, .int .i64 0, .string noText] (L0.length * 3)) 27)) p vE v (S.drop m) ∧ m + (subsXs (L0.drop 0)).length = N ∧ othX op 0 acc (valXs env (L0.drop 0) (S.drop m)) = Y ∧ ButB p w.heap.size w (w.alloc (.cells (madeCells #[.int .i64 0, .int .i64 0, .string noText] (L0.length * 3)) 27)) ∧ acc.length = 0 ∧ ArgsB (w.alloc (.cells (madeCells #[.int .i64 0, .int .i64 0, .string noText] (L0.length * 3)) 27)) w.heap.size L0.length acc ∧ ∀ d ∈ acc, InI d) :=
    ⟨v, 0, [], by rw [List.drop_zero]; exact h.below hb1, by rw [List.drop_zero, hN, Nat.zero_add], by rw [List.drop_zero, List.drop_zero]; exact hY, ButB.of p hb1, rfl, ArgsB.make _ _, fun d hd => by cases hd⟩
  have HPW : Hid (p < w.heap.size ∧ w0.heap.size ≤ p) := ⟨h.blk.lt, h.base⟩
  have HRI := Lib.hid hRI
  have HS := Lib.hid hS
  have HK := Lib.hid hK
  have HV := Lib.hid hv
  have HT := Lib.hid hT
  have H17 := Lib.hid h17
  have HL := Lib.hid hL
  clear hY hN hS hRI h hv hK hb1 hi hz0 hz1 hz2 hT h17 hL
  go_enter Tryz.func65, Tryz.ntmps65
  go_wp2_with fail
  go_loopw [20] (fun u wr => ∃ n : Nat, u = .int .i64 n ∧ n ≤ L0.length ∧ Hid (∃ v m acc, WSt w0 wr p vE v (S.drop m) ∧ m + (subsXs (L0.drop n)).length = N ∧ othX op n acc (valXs env (L0.drop n) (S.drop m)) = Y ∧ ButB p w.heap.size w wr ∧ acc.length = n ∧ ArgsB wr w.heap.size L0.length acc ∧ ∀ d ∈ acc, InI d)) (fun u _ => L0.length - (intOf u).toNat)
  case atStart => exact ⟨0, rfl, Nat.zero_le _, HI0⟩
  case round =>
    clear HI0 hMk
    obtain ⟨n, rfl, hn, HI⟩ := hrel
    by_cases hlt : n < L0.length
    · obtain ⟨v', m, acc, hst, hN, hY, hbut, hal, har, hai⟩ := HI.out
      rw [List.drop_eq_getElem_cons hlt] at hN hY
      obtain ⟨⟨Ak, ak, hkv⟩, ⟨An, an, as_, hsv⟩, hk1⟩ := HK.out.shape L0[n] (List.getElem_mem hlt)
      rw [valXs_more env _ _ _ hk1, List.drop_drop, othX] at hY
      rw [subsXs_cons, List.length_append] at hN
      obtain ⟨bl, off, hA, hbl, x0, x1, x2, x3, x4, x5, x6, x7, x8, x9, x10⟩ := HV.out.nth n hlt
      rw [hkv] at x9
      rw [hsv] at x10
      have hbel := hst.bel
      have z0 := (hbel.cell (p := ⟨bl, off + n * 11, none⟩) hbl).trans x0
      have z1 := (hbel.cell (p := ⟨bl, off + n * 11 + 1, none⟩) hbl).trans x1
      have z2 := (hbel.cell (p := ⟨bl, off + n * 11 + 2, none⟩) hbl).trans x2
      have z3 := (hbel.cell (p := ⟨bl, off + n * 11 + 3, none⟩) hbl).trans x3
      have z4 := (hbel.cell (p := ⟨bl, off + n * 11 + 4, none⟩) hbl).trans x4
      have z5 := (hbel.cell (p := ⟨bl, off + n * 11 + 5, none⟩) hbl).trans x5
      have z6 := (hbel.cell (p := ⟨bl, off + n * 11 + 6, none⟩) hbl).trans x6
      have z7 := (hbel.cell (p := ⟨bl, off + n * 11 + 7, none⟩) hbl).trans x7
      have z8 := (hbel.cell (p := ⟨bl, off + n * 11 + 8, none⟩) hbl).trans x8
      have z9 := (hbel.cell (p := ⟨bl, off + n * 11 + 9, none⟩) hbl).trans x9
      have z10 := (hbel.cell (p := ⟨bl, off + n * 11 + 10, none⟩) hbl).trans x10
      have hrest := HV.out.rest (n + 1) (by omega) hc
      have hlen : m + (subsX L0[n]).length + (subsXs (L0.drop (n + 1))).length ≤ S.length := by have := HS.out; omega
      have hC : ∀ w' v', WSt w0 w' p vE v' (S.drop m) → Calls Tryz.prog 19 #[.pointer (some ⟨p, 0, none⟩), exVal L0[n]] w' (WPost (valX env L0[n] (S.drop m)) (subsX L0[n]).length w0 p vE (S.drop m) w') :=
        fun w' v' hs => HK.out.worth _ (List.getElem_mem hlt) w' v' _ hs (by rw [List.length_drop]; omega) (HRI.out.drop m)
      have hRT := HK.out.right _ (List.getElem_mem hlt) (S.drop m) (HRI.out.drop m)
      have hII := HK.out.inI _ (List.getElem_mem hlt) (S.drop m) (HRI.out.drop m)
      have HCP : Hid (∀ vm w' v' k, k + (subsXs (L0.drop (n + 1))).length ≤ S.length → ExsV w0 vm (L0.drop (n + 1)) → WSt w0 w' p vE v' (S.drop k) → Calls Tryz.prog 92 #[.pointer (some ⟨p, 0, none⟩), vm] w' (PPost (subsXs (L0.drop (n + 1))).length w0 p vE (S.drop k) w')) :=
        fun vm w' v' k hk hvm hs => HK.out.pass _ vm w' v' _ (fun x hx => List.mem_of_mem_drop hx) (hvm.below hs.bel) hs (by rw [List.length_drop]; omega)
      obtain ⟨nl, hnl⟩ : ∃ nl, (subsXs (L0.drop (n + 1))).length = nl := ⟨_, rfl⟩
      rw [hnl] at HCP hN hlen
      have HNL := Lib.hid hnl
      have HN := Lib.hid hN
      have HLN := Lib.hid hlen
      have HB := Lib.hid hbut
      have HAL := Lib.hid hal
      have HAR := Lib.hid har
      have HAI := Lib.hid hai
      clear hal har hai
      have HBV := Lib.hid hst
      unfold exVal at hC
      rw [hkv, hsv] at hC
      clear hnl hst hN hbut hlen HI hkv hsv hk1 x0 x1 x2 x3 x4 x5 x6 x7 x8 x9 x10 hbel
      have hn9 : (n : Int) + 1 ≤ 9223372036854775807 := by unfold maxLen at hm; omega
      have hlt' : (n : Int) < L0.length := by omega
      have hlt2 : (n : Int) + 1 ≤ L0.length := by omega
      have hcc2 : (L0.length : Int) ≤ c := by omega
      have ht : ((n : Int) + 1).toNat = n + 1 := by omega
      have HLT := Lib.hid hlt
      have HHM := Lib.hid hm
      subst hA
      revert z0 z1 z2 z3 z4 z5 z6 z7 z8 z9 z10 hY hC hRT hII HCP HN HLN
      generalize hXX : valX env L0[n] (S.drop m) = x
      generalize L0[n] = a
      clear hXX
      obtain ⟨⟨xk, xi, xs⟩, xf⟩ := x
      intro hY z0 z1 z2 z3 z4 z5 z6 z7 z8 z9 z10 hC hRT hII HCP HN HLN
      simp only at hY hRT hII
      have hTY := as_yes
      have hTN := as_no
      by_cases hf : xf ≠ 0
      · have HC : Hid (∀ w' v', WSt w0 w' p vE v' (S.drop m) → Calls Tryz.prog 19 #[.pointer (some ⟨p, 0, none⟩), .agg #[.int .i64 a.k, .int .i64 a.t, .bool a.nl, .int .i64 a.lit.k, .int .i64 a.lit.i, .string a.lit.s, .int .i64 a.lv, .int .i64 a.col, .int .i64 a.op, .slice Ak a.kids.length ak, .slice An an as_]] w' (fun e w2 => e = .returned (.iface 33 (.int .i64 xf)) ∧ ButB p w'.heap.size w' w2 ∧ ∃ v' m', m' ≤ (subsX a).length ∧ WSt w0 w2 p vE v' (S.drop (m + m')))) := by
          intro w' v' hs
          refine (hC w' v' hs).mono ?_
          rintro e w7 ⟨rfl, h2, v2, m2, h3, _, h5⟩
          exact ⟨by rw [ifX_err hf], h2, v2, m2, h3, by rw [← List.drop_drop]; exact h5⟩
        clear hC
        rw [if_pos hf] at hY
        have HY := Lib.hid hY
        have HF := Lib.hid hf
        clear hY hRT hII hf
        by_cases hci : c = n + 1
        · rw [if_pos hci] at hrest
          have hLN : L0.length = n + 1 := by omega
          have HV2 : Hid (ExsV w0 (.slice (some ⟨bl, off, none⟩) 0 0) (L0.drop (n + 1))) := by
            rw [hLN, hci, Nat.sub_self] at hrest
            exact hrest
          subst hci
          clear hrest hLN
          go_wp2_with (first
            | (go_at_call 19; (with_reducible refine (HC.out _ _ (HBV.out.below ((Below.refl _ wr).alloc (Nat.le_refl _) (.cells #[.int .i64 a.k, .int .i64 a.t, .bool a.nl, .int .i64 a.lit.k, .int .i64 a.lit.i, .string a.lit.s, .int .i64 a.lv, .int .i64 a.col, .int .i64 a.op, .slice Ak a.kids.length ak, .slice An an as_] 30)))).mono ?_); rintro e w7 ⟨rfl, hbut7, v7, m7, hm7, hst7⟩; have hbut8 := (((HB.out.alloc HB.out.size (.cells #[.int .i64 a.k, .int .i64 a.t, .bool a.nl, .int .i64 a.lit.k, .int .i64 a.lit.i, .string a.lit.s, .int .i64 a.lv, .int .i64 a.col, .int .i64 a.op, .slice Ak a.kids.length ak, .slice An an as_] 30)).trans (hbut7.mono (by have := HB.out.size; simp; omega))).alloc (by have := HB.out.size; have := hbut7.size; simp at this; omega) (.cells #[.int .i64 0, .int .i64 0, .string noText] 27)); have hst8 := hst7.below ((Below.refl _ w7).alloc (Nat.le_refl _) (.cells #[.int .i64 0, .int .i64 0, .string noText] 27)))
            | (go_at_call 92; (with_reducible refine (HCP.out _ _ _ _ (by have := HLN.out; omega) HV2.out hst8).mono ?_); rintro e w11 ⟨rfl, hbut12, v11, hst11⟩; rw [List.drop_drop] at hst11; have hbut13 := hbut8.trans (hbut12.mono hbut8.size)))
          go_ret
          exact ⟨by rw [← HY.out, ifX_err (x := nulX xf) HF.out]; rfl, hbut13, v11, _, by have := HN.out; omega, fun h => by rw [← HY.out] at h; exact absurd h HF.out, hst11⟩
        · rw [if_neg hci] at hrest
          have HV2 : Hid (ExsV w0 (.slice (some ⟨bl, off + (n + 1) * 11, none⟩) (L0.length - (n + 1)) (c - (n + 1))) (L0.drop (n + 1))) := hrest
          clear hrest
          go_wp2_with (first
            | (go_at_call 19; (with_reducible refine (HC.out _ _ (HBV.out.below ((Below.refl _ wr).alloc (Nat.le_refl _) (.cells #[.int .i64 a.k, .int .i64 a.t, .bool a.nl, .int .i64 a.lit.k, .int .i64 a.lit.i, .string a.lit.s, .int .i64 a.lv, .int .i64 a.col, .int .i64 a.op, .slice Ak a.kids.length ak, .slice An an as_] 30)))).mono ?_); rintro e w7 ⟨rfl, hbut7, v7, m7, hm7, hst7⟩; have hbut8 := (((HB.out.alloc HB.out.size (.cells #[.int .i64 a.k, .int .i64 a.t, .bool a.nl, .int .i64 a.lit.k, .int .i64 a.lit.i, .string a.lit.s, .int .i64 a.lv, .int .i64 a.col, .int .i64 a.op, .slice Ak a.kids.length ak, .slice An an as_] 30)).trans (hbut7.mono (by have := HB.out.size; simp; omega))).alloc (by have := HB.out.size; have := hbut7.size; simp at this; omega) (.cells #[.int .i64 0, .int .i64 0, .string noText] 27)); have hst8 := hst7.below ((Below.refl _ w7).alloc (Nat.le_refl _) (.cells #[.int .i64 0, .int .i64 0, .string noText] 27)))
            | (go_at_call 92; (with_reducible refine (HCP.out _ _ _ _ (by have := HLN.out; omega) HV2.out hst8).mono ?_); rintro e w11 ⟨rfl, hbut12, v11, hst11⟩; rw [List.drop_drop] at hst11; have hbut13 := hbut8.trans (hbut12.mono hbut8.size)))
          go_ret
          exact ⟨by rw [← HY.out, ifX_err (x := nulX xf) HF.out]; rfl, hbut13, v11, _, by have := HN.out; omega, fun h => by rw [← HY.out] at h; exact absurd h HF.out, hst11⟩
      · rw [Classical.not_not] at hf
        subst hf
        rw [if_neg (by simp), if_neg (fun h => H17.out h.1)] at hY
        have HC : Hid (∀ w' v', WSt w0 w' p vE v' (S.drop m) → Calls Tryz.prog 19 #[.pointer (some ⟨p, 0, none⟩), .agg #[.int .i64 a.k, .int .i64 a.t, .bool a.nl, .int .i64 a.lit.k, .int .i64 a.lit.i, .string a.lit.s, .int .i64 a.lv, .int .i64 a.col, .int .i64 a.op, .slice Ak a.kids.length ak, .slice An an as_]] w' (fun e w2 => e = .returned (.iface 27 (.agg #[.int .i64 xk, .int .i64 xi, .string xs])) ∧ ButB p w'.heap.size w' w2 ∧ ∃ v', WSt w0 w2 p vE v' (S.drop (m + (subsX a).length)))) := by
          intro w' v' hs
          refine (hC w' v' hs).mono ?_
          rintro e w7 ⟨rfl, h2, v2, m2, h3, h4, h5⟩
          have h6 := h4 rfl
          subst h6
          exact ⟨by rw [ifX_ok rfl], h2, v2, by rw [← List.drop_drop]; exact h5⟩
        clear hC
        by_cases hs : setX op ⟨xk, xi, xs⟩ = true ∧ n = 0
        · obtain ⟨hs1, hs2⟩ := hs
          rw [if_pos ⟨hs1, hs2⟩] at hY
          have HY := Lib.hid hY
          have hn0 : ((n : Int) == 0) = true := by rw [hs2]; rfl
          have HSE : Hid (∀ w, Calls Tryz.prog 93 #[.int .i64 op, .agg #[.int .i64 xk, .int .i64 xi, .string xs]] w (RightPost true w)) := fun w => by have h := settles_any op xk xi xs w; rwa [hs1] at h
          clear hY hRT hII hs1 hs2
          by_cases hci : c = n + 1
          · rw [if_pos hci] at hrest
            have hLN : L0.length = n + 1 := by omega
            have HV2 : Hid (ExsV w0 (.slice (some ⟨bl, off, none⟩) 0 0) (L0.drop (n + 1))) := by
              rw [hLN, hci, Nat.sub_self] at hrest
              exact hrest
            subst hci
            clear hrest hLN
            go_wp2_with (first
              | (go_at_call 19; (with_reducible refine (HC.out _ _ (HBV.out.below ((Below.refl _ wr).alloc (Nat.le_refl _) (.cells #[.int .i64 a.k, .int .i64 a.t, .bool a.nl, .int .i64 a.lit.k, .int .i64 a.lit.i, .string a.lit.s, .int .i64 a.lv, .int .i64 a.col, .int .i64 a.op, .slice Ak a.kids.length ak, .slice An an as_] 30)))).mono ?_); rintro e w7 ⟨rfl, hbut7, v7, hst7⟩; have hbut8 := (((HB.out.alloc HB.out.size (.cells #[.int .i64 a.k, .int .i64 a.t, .bool a.nl, .int .i64 a.lit.k, .int .i64 a.lit.i, .string a.lit.s, .int .i64 a.lv, .int .i64 a.col, .int .i64 a.op, .slice Ak a.kids.length ak, .slice An an as_] 30)).trans (hbut7.mono (by have := HB.out.size; simp; omega))).alloc (by have := HB.out.size; have := hbut7.size; simp at this; omega) (.cells #[.int .i64 xk, .int .i64 xi, .string xs] 27)); have hst8 := hst7.below ((Below.refl _ w7).alloc (Nat.le_refl _) (.cells #[.int .i64 xk, .int .i64 xi, .string xs] 27)); have hwz := HAR.out.lt; have hwp := HPW.out; have hA7 := HAR.out.below ((Below.refl _ wr).alloc (Nat.le_refl _) (.cells #[.int .i64 a.k, .int .i64 a.t, .bool a.nl, .int .i64 a.lit.k, .int .i64 a.lit.i, .string a.lit.s, .int .i64 a.lv, .int .i64 a.col, .int .i64 a.op, .slice Ak a.kids.length ak, .slice An an as_] 30)); have hA7 := hA7.but hbut7 (by simp; omega) (by omega); have HA8 := Lib.hid (hA7.below ((Below.refl _ w7).alloc (Nat.le_refl _) (.cells #[.int .i64 xk, .int .i64 xi, .string xs] 27))); have bD := Blk.new w7 #[.int .i64 xk, .int .i64 xi, .string xs] 27)
              | (go_at_call 93; (with_reducible refine (HSE.out _).mono ?_); rintro e w9 ⟨rfl, hb9⟩; have hst9 := hst8.below hb9; have hbut9 := hbut8.add hb9 hbut8.size)
              | (go_at_call 92; (with_reducible refine (HCP.out _ _ _ _ (by have := HLN.out; omega) HV2.out hst9).mono ?_); rintro e w11 ⟨rfl, hbut12, v11, hst11⟩; rw [List.drop_drop] at hst11; have hbut13 := hbut9.trans (hbut12.mono hbut9.size)))
            go_ret
            exact ⟨by rw [← HY.out]; rfl, hbut13, v11, _, by have := HN.out; omega, fun _ => by have := HN.out; omega, hst11⟩
          · rw [if_neg hci] at hrest
            have HV2 : Hid (ExsV w0 (.slice (some ⟨bl, off + (n + 1) * 11, none⟩) (L0.length - (n + 1)) (c - (n + 1))) (L0.drop (n + 1))) := hrest
            clear hrest
            go_wp2_with (first
              | (go_at_call 19; (with_reducible refine (HC.out _ _ (HBV.out.below ((Below.refl _ wr).alloc (Nat.le_refl _) (.cells #[.int .i64 a.k, .int .i64 a.t, .bool a.nl, .int .i64 a.lit.k, .int .i64 a.lit.i, .string a.lit.s, .int .i64 a.lv, .int .i64 a.col, .int .i64 a.op, .slice Ak a.kids.length ak, .slice An an as_] 30)))).mono ?_); rintro e w7 ⟨rfl, hbut7, v7, hst7⟩; have hbut8 := (((HB.out.alloc HB.out.size (.cells #[.int .i64 a.k, .int .i64 a.t, .bool a.nl, .int .i64 a.lit.k, .int .i64 a.lit.i, .string a.lit.s, .int .i64 a.lv, .int .i64 a.col, .int .i64 a.op, .slice Ak a.kids.length ak, .slice An an as_] 30)).trans (hbut7.mono (by have := HB.out.size; simp; omega))).alloc (by have := HB.out.size; have := hbut7.size; simp at this; omega) (.cells #[.int .i64 xk, .int .i64 xi, .string xs] 27)); have hst8 := hst7.below ((Below.refl _ w7).alloc (Nat.le_refl _) (.cells #[.int .i64 xk, .int .i64 xi, .string xs] 27)); have hwz := HAR.out.lt; have hwp := HPW.out; have hA7 := HAR.out.below ((Below.refl _ wr).alloc (Nat.le_refl _) (.cells #[.int .i64 a.k, .int .i64 a.t, .bool a.nl, .int .i64 a.lit.k, .int .i64 a.lit.i, .string a.lit.s, .int .i64 a.lv, .int .i64 a.col, .int .i64 a.op, .slice Ak a.kids.length ak, .slice An an as_] 30)); have hA7 := hA7.but hbut7 (by simp; omega) (by omega); have HA8 := Lib.hid (hA7.below ((Below.refl _ w7).alloc (Nat.le_refl _) (.cells #[.int .i64 xk, .int .i64 xi, .string xs] 27))); have bD := Blk.new w7 #[.int .i64 xk, .int .i64 xi, .string xs] 27)
              | (go_at_call 93; (with_reducible refine (HSE.out _).mono ?_); rintro e w9 ⟨rfl, hb9⟩; have hst9 := hst8.below hb9; have hbut9 := hbut8.add hb9 hbut8.size)
              | (go_at_call 92; (with_reducible refine (HCP.out _ _ _ _ (by have := HLN.out; omega) HV2.out hst9).mono ?_); rintro e w11 ⟨rfl, hbut12, v11, hst11⟩; rw [List.drop_drop] at hst11; have hbut13 := hbut9.trans (hbut12.mono hbut9.size)))
            go_ret
            exact ⟨by rw [← HY.out]; rfl, hbut13, v11, _, by have := HN.out; omega, fun _ => by have := HN.out; omega, hst11⟩
        · rw [if_neg hs] at hY
          have HY := Lib.hid hY
          have HII := Lib.hid hII
          clear hY hRT hII
          by_cases hz : n = 0
          · have hn0 : ((n : Int) == 0) = true := by rw [hz]; rfl
            have hse : setX op ⟨xk, xi, xs⟩ = false := by
              cases hx : setX op ⟨xk, xi, xs⟩
              · rfl
              · exact absurd ⟨hx, hz⟩ hs
            have HSE : Hid (∀ w, Calls Tryz.prog 93 #[.int .i64 op, .agg #[.int .i64 xk, .int .i64 xi, .string xs]] w (RightPost false w)) := fun w => by have h := settles_any op xk xi xs w; rwa [hse] at h
            clear hz hse hs hrest HCP
            go_wp2_with (first
              | (go_at_call 19; (with_reducible refine (HC.out _ _ (HBV.out.below ((Below.refl _ wr).alloc (Nat.le_refl _) (.cells #[.int .i64 a.k, .int .i64 a.t, .bool a.nl, .int .i64 a.lit.k, .int .i64 a.lit.i, .string a.lit.s, .int .i64 a.lv, .int .i64 a.col, .int .i64 a.op, .slice Ak a.kids.length ak, .slice An an as_] 30)))).mono ?_); rintro e w7 ⟨rfl, hbut7, v7, hst7⟩; have hbut8 := (((HB.out.alloc HB.out.size (.cells #[.int .i64 a.k, .int .i64 a.t, .bool a.nl, .int .i64 a.lit.k, .int .i64 a.lit.i, .string a.lit.s, .int .i64 a.lv, .int .i64 a.col, .int .i64 a.op, .slice Ak a.kids.length ak, .slice An an as_] 30)).trans (hbut7.mono (by have := HB.out.size; simp; omega))).alloc (by have := HB.out.size; have := hbut7.size; simp at this; omega) (.cells #[.int .i64 xk, .int .i64 xi, .string xs] 27)); have hst8 := hst7.below ((Below.refl _ w7).alloc (Nat.le_refl _) (.cells #[.int .i64 xk, .int .i64 xi, .string xs] 27)); have hwz := HAR.out.lt; have hwp := HPW.out; have hA7 := HAR.out.below ((Below.refl _ wr).alloc (Nat.le_refl _) (.cells #[.int .i64 a.k, .int .i64 a.t, .bool a.nl, .int .i64 a.lit.k, .int .i64 a.lit.i, .string a.lit.s, .int .i64 a.lv, .int .i64 a.col, .int .i64 a.op, .slice Ak a.kids.length ak, .slice An an as_] 30)); have hA7 := hA7.but hbut7 (by simp; omega) (by omega); have HA8 := Lib.hid (hA7.below ((Below.refl _ w7).alloc (Nat.le_refl _) (.cells #[.int .i64 xk, .int .i64 xi, .string xs] 27))); have bD := Blk.new w7 #[.int .i64 xk, .int .i64 xi, .string xs] 27)
              | (go_at_call 93; (with_reducible refine (HSE.out _).mono ?_); rintro e w9 ⟨rfl, hb9⟩; have hst9 := hst8.below hb9; have hbut9 := hbut8.add hb9 hbut8.size; have bD9 := bD.below hb9; have c0 := bD9.cell 0; have c1 := bD9.cell 1; have c2 := bD9.cell 2; simp only [List.getElem?_toArray, List.getElem?_cons_zero, List.getElem?_cons_succ] at c0 c1 c2; have HA9 := Lib.hid (HA8.out.below hb9); obtain ⟨u0, o0⟩ := HA9.out.cellAt (n * 3) (by have := HLT.out; omega); obtain ⟨u1, o1⟩ := HA9.out.cellAt (n * 3 + 1) (by have := HLT.out; omega); obtain ⟨u2, o2⟩ := HA9.out.cellAt (n * 3 + 2) (by have := HLT.out; omega); have g0 := HA9.out.frozen (n * 3); have g1 := HA9.out.frozen (n * 3 + 1); have g2 := HA9.out.frozen (n * 3 + 2)))
            refine ⟨⟨n + 1, by go_num, HLT.out, ⟨_, _, _, (((hst9.other (by have := HPW.out; omega) (by have := HPW.out; omega) _ _).other (by have := HPW.out; omega) (by have := HPW.out; omega) _ _).other (by have := HPW.out; omega) (by have := HPW.out; omega) _ _), by rw [HNL.out]; have := HN.out; omega, HY.out, ((hbut9.setCell (.inl (Nat.le_refl _)) _).setCell (.inl (Nat.le_refl _)) _).setCell (.inl (Nat.le_refl _)) _, by rw [List.length_append, List.length_singleton, HAL.out], HA9.out.put n HAL.out HLT.out ⟨xk, xi, xs⟩, fun d hd => ?_⟩⟩, ?_⟩
            · rcases List.mem_append.1 hd with hd | hd
              · exact HAI.out d hd
              · rw [List.mem_singleton] at hd
                rw [hd]
                exact HII.out
            · simp [intOf]
              try go_num
          · have hn0 : ((n : Int) == 0) = false := by simpa using hz
            clear hz hs hrest HCP
            go_wp2_with (go_at_call 19; (with_reducible refine (HC.out _ _ (HBV.out.below ((Below.refl _ wr).alloc (Nat.le_refl _) (.cells #[.int .i64 a.k, .int .i64 a.t, .bool a.nl, .int .i64 a.lit.k, .int .i64 a.lit.i, .string a.lit.s, .int .i64 a.lv, .int .i64 a.col, .int .i64 a.op, .slice Ak a.kids.length ak, .slice An an as_] 30)))).mono ?_); rintro e w7 ⟨rfl, hbut7, v7, hst7⟩; have hbut8 := (((HB.out.alloc HB.out.size (.cells #[.int .i64 a.k, .int .i64 a.t, .bool a.nl, .int .i64 a.lit.k, .int .i64 a.lit.i, .string a.lit.s, .int .i64 a.lv, .int .i64 a.col, .int .i64 a.op, .slice Ak a.kids.length ak, .slice An an as_] 30)).trans (hbut7.mono (by have := HB.out.size; simp; omega))).alloc (by have := HB.out.size; have := hbut7.size; simp at this; omega) (.cells #[.int .i64 xk, .int .i64 xi, .string xs] 27)); have hst8 := hst7.below ((Below.refl _ w7).alloc (Nat.le_refl _) (.cells #[.int .i64 xk, .int .i64 xi, .string xs] 27)); have hwz := HAR.out.lt; have hwp := HPW.out; have hA7 := HAR.out.below ((Below.refl _ wr).alloc (Nat.le_refl _) (.cells #[.int .i64 a.k, .int .i64 a.t, .bool a.nl, .int .i64 a.lit.k, .int .i64 a.lit.i, .string a.lit.s, .int .i64 a.lv, .int .i64 a.col, .int .i64 a.op, .slice Ak a.kids.length ak, .slice An an as_] 30)); have hA7 := hA7.but hbut7 (by simp; omega) (by omega); have HA8 := Lib.hid (hA7.below ((Below.refl _ w7).alloc (Nat.le_refl _) (.cells #[.int .i64 xk, .int .i64 xi, .string xs] 27))); have bD := Blk.new w7 #[.int .i64 xk, .int .i64 xi, .string xs] 27; have c0 := bD.cell 0; have c1 := bD.cell 1; have c2 := bD.cell 2; simp only [List.getElem?_toArray, List.getElem?_cons_zero, List.getElem?_cons_succ] at c0 c1 c2; obtain ⟨u0, o0⟩ := HA8.out.cellAt (n * 3) (by have := HLT.out; omega); obtain ⟨u1, o1⟩ := HA8.out.cellAt (n * 3 + 1) (by have := HLT.out; omega); obtain ⟨u2, o2⟩ := HA8.out.cellAt (n * 3 + 2) (by have := HLT.out; omega); have g0 := HA8.out.frozen (n * 3); have g1 := HA8.out.frozen (n * 3 + 1); have g2 := HA8.out.frozen (n * 3 + 2))
            refine ⟨⟨n + 1, by go_num, HLT.out, ⟨_, _, _, (((hst8.other (by have := HPW.out; omega) (by have := HPW.out; omega) _ _).other (by have := HPW.out; omega) (by have := HPW.out; omega) _ _).other (by have := HPW.out; omega) (by have := HPW.out; omega) _ _), by rw [HNL.out]; have := HN.out; omega, HY.out, ((hbut8.setCell (.inl (Nat.le_refl _)) _).setCell (.inl (Nat.le_refl _)) _).setCell (.inl (Nat.le_refl _)) _, by rw [List.length_append, List.length_singleton, HAL.out], HA8.out.put n HAL.out HLT.out ⟨xk, xi, xs⟩, fun d hd => ?_⟩⟩, ?_⟩
            · rcases List.mem_append.1 hd with hd | hd
              · exact HAI.out d hd
              · rw [List.mem_singleton] at hd
                rw [hd]
                exact HII.out
            · simp [intOf]
              try go_num
    · obtain ⟨v', m, acc, hst, hN, hY, hbut, hal, har, hai⟩ := HI.out
      rw [List.drop_eq_nil_of_le (by omega), valXs_nil, othX, if_neg H17.out] at hY
      rw [List.drop_eq_nil_of_le (by omega), subsXs_nil, List.length_nil, Nat.add_zero] at hN
      have hA := apply_any op acc _ wr (har.val (by omega) hm) (HT.out.below hst.bel) hai
      have HB := Lib.hid hbut
      have HZ := Lib.hid hN
      have HSX := Lib.hid hst
      have hsz := hbut.size
      clear hbut hal har hai hst hN HI
      revert hA hY
      generalize appR op acc = r
      obtain ⟨K, I, E⟩ := r
      unfold ResT ResPost triX
      intro hY hA
      simp only at hA hY
      have HA := Lib.hid hA
      have HY := Lib.hid hY
      clear hA hY
      by_cases hE : E = 0
      · subst hE
        go_wp2_with (go_at_call 60; (with_reducible refine HA.out.mono ?_); rintro e w5 ⟨rfl, hb5⟩; have hb6 := hb5.alloc hb5.size (.cells #[.int .i64 K, .int .i64 I, .string noText] 27))
        go_ret
        exact ⟨by rw [← HY.out]; rfl, HB.out.add hb6 hsz, v', m, by have := HZ.out; omega, fun _ => HZ.out, HSX.out.below hb6⟩
      · have e0 : (E != 0) = true := by simpa using hE
        have HE := Lib.hid hE
        clear hE
        go_wp2_with (go_at_call 60; (with_reducible refine HA.out.mono ?_); rintro e w5 ⟨rfl, hb5⟩; have hb6 := hb5.alloc hb5.size (.cells #[.int .i64 K, .int .i64 I, .string noText] 27))
        go_ret
        exact ⟨by rw [← HY.out, ifX_err HE.out]; rfl, HB.out.add hb6 hsz, v', m, by have := HZ.out; omega, fun _ => HZ.out, HSX.out.below hb6⟩

end Go.Proofs.YtippffjhkinfoaaGreatDoor

namespace Go.Proofs.YtippffjhkinfoaaGreatDoor
open Go.RowKit

theorem kids_of {w0 : World} {kids : List Ex} (env : Env) (p : Nat) (vE : Value) (hk : ∀ x ∈ kids, ExOk w0 x) (hkB : ∀ x ∈ kids, ExB x) (hr : ∀ x ∈ kids, rightX env x = true) (hEI : ∀ r ∈ env, ∀ d ∈ r.l, InI d)
    (hW : ∀ x ∈ kids, ∀ w v S, WSt w0 w p vE v S → (subsX x).length ≤ S.length → RI S → Calls Tryz.prog 19 #[.pointer (some ⟨p, 0, none⟩), exVal x] w (WPost (valX env x S) (subsX x).length w0 p vE S w)) : Kids w0 env p vE kids where
  shape x hx := by
    obtain ⟨A, c, h, _, _⟩ := (hk x hx).kv.slice
    exact ⟨⟨A, c, h⟩, (hk x hx).sv, (right_kind (hr x hx)).1⟩
  worth := hW
  pass M vm w v S hM hvm st hl := by
    have hm : S.length ≤ maxLen := by obtain ⟨_, _, _, _, h⟩ := st.val.len; exact h
    have hs : SliceV vm := by obtain ⟨A, c, h, _, _⟩ := hvm.slice; exact ⟨_, _, _, h⟩
    refine pass_any st vm hs _ hl fun w' hb' => ?_
    exact subq_any M vm env (st.bel.trans (hb'.mono st.bel.size)) (hvm.below hb') (fun x hx => hk x (hM x hx)) (fun x hx => hr x (hM x hx)) (by unfold maxLen at hm; omega)
  right x hx S hS := right_val (hkB x hx) (hr x hx) S fun d hd => (hS d hd).2
  inI x hx S hS := valX_in app_in hEI (hkB x hx) S fun d hd => (hS d hd).1

/-- worth. -/
theorem worth_any {w0 : World} {e : Ex} (h : ExOk w0 e) (env : Env) (vE : Value) (hE : EnvV w0 vE env) (hEI : ∀ r ∈ env, ∀ d ∈ r.l, InI d) (hT : Tabs w0) (p : Nat) :
    ExB e → rightX env e = true → ∀ w v S, WSt w0 w p vE v S → (subsX e).length ≤ S.length → RI S → Calls Tryz.prog 19 #[.pointer (some ⟨p, 0, none⟩), exVal e] w (WPost (valX env e S) (subsX e).length w0 p vE S w) := by
  induction h with
  | mk e hv hs hk ih =>
    intro hB hr w v S st hl hRI
    obtain ⟨sA, sn, sc, hsv⟩ := hs
    obtain ⟨A, c, hkv, hc, hm⟩ := hv.slice
    have hlen := hB.len
    have hkB := hB.kid
    clear hB
    rw [rightX_eq] at hr
    rw [subsX_eq] at hl ⊢
    rw [valX_eq]
    obtain ⟨k, t, nl, lit, lv, col, op, kv, sv, kids⟩ := e
    simp only at hsv hkv hr hl hlen hkB ih hv hk hc hm ⊢
    subst hsv hkv
    by_cases h1 : k = 1
    · subst h1
      rw [if_pos rfl, if_neg (by decide : ¬ (4 : Int) ≤ 1), if_neg (by decide : ¬ (1 : Int) = 3)]
      exact worth_lit t nl lit lv col op A sA kids.length c sn sc st
    · rw [if_neg h1] at hr ⊢
      by_cases h2 : k = 2
      · subst h2
        rw [if_pos rfl] at hr
        rw [if_pos rfl, if_neg (by decide : ¬ (4 : Int) ≤ 2), if_neg (by decide : ¬ (2 : Int) = 3)]
        cases hd : colX lv col env with
        | none => rw [hd] at hr; cases hr
        | some d => exact worth_col t nl lit lv col op A sA kids.length c sn sc st env hE d hd
      · rw [if_neg h2] at hr ⊢
        by_cases h3 : k = 3
        · subst h3
          rw [if_pos rfl] at hr
          rw [if_neg (by decide : ¬ (4 : Int) ≤ 3), if_pos rfl] at hl
          rw [if_neg (by decide : ¬ (4 : Int) ≤ 3), if_pos rfl, if_pos rfl]
          rw [Bool.and_eq_true, rightXs_all, List.all_eq_true] at hr
          have hK := kids_of env p vE hk hkB hr.1 hEI (fun x hx => ih x hx (hkB x hx) (hr.1 x hx))
          refine worth_call t nl lit lv col op A sA kids.length c sn sc st _ _ fun w1 v1 st1 => ?_
          unfold callX
          by_cases h16 : op = 16
          · subst h16
            rw [if_pos rfl]
            exact call_case 3 t nl lit lv col A sA kids.length c sn sc st1 _ _ fun w2 v2 st2 => choice_any hK _ hv st2 hl hRI
          · rw [if_neg h16]
            by_cases h17 : op = 17
            · subst h17
              exact call_coal 3 t nl lit lv col A sA kids.length c sn sc st1 _ _ fun w2 v2 st2 => first_any hK _ hv st2 hl hRI
            · exact call_oth 3 t nl lit lv col op A sA kids.length c sn sc st1 _ _ h16 h17 fun w2 v2 st2 => oper_any hK op h17 hT hlen _ hv st2 hl hRI
        · rw [if_neg h3] at hr ⊢
          have h4 := of_decide_eq_true hr
          rw [if_pos h4.1] at hl ⊢
          match S, st, hl with
          | d :: r, st, _ => exact worth_sub k t nl lit lv col op A sA kids.length c sn sc st h1 h2 h3
          | [], _, hl => simp at hl

end Go.Proofs.YtippffjhkinfoaaGreatDoor
