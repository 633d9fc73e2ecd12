/-
  What expressions are worth, as plain functions; the reference's Of, but for operators.
  A region whose order is drawn, whose operations read old memory, and whose callees make memory of their own alone: one walk in the order of the text serves every order.
  The reference's kid: the value of one of the kids, over its part of the subqueries' values.
  The reference's call: CASE; any other operator.
  The reference's call: any operator but CASE.
  The reference's Of, at any expression.
  An operator's number stays within 64 bits; the reference's Of without that premise.
  The reference's Value.
-/
import Derived.Test.YtbjcebnahllnjaaDoorExA
import Derived.Test.YtbjcebnahllnjaaDoorRefApp
import Derived.Test.YtbjcebnahllnjaaDoorPosts
import Derived.Test.YtbjcebnahllnjaaDoorCells
import Derived.BigQuiet
import Derived.Deep.RegionHeld3
namespace Go.Proofs.YtbjcebnahllnjaaDoor
open Go.RowKit

/-- A value and an error. -/
abbrev Va := Dat × Int
def nulX (f : Int) : Va := (nullD, f)
def triX (t : Tri) : Va := (⟨t.1, t.2.1, noText⟩, t.2.2)
/-- CASE, of its kids' values. -/
def caseX : List Va → Va
  | [] => nulX 0
  | [a] => a
  | a :: b :: l => if a.2 ≠ 0 then nulX a.2 else if 1 < a.1.k then nulX 5 else if a.1.k = 1 ∧ a.1.i = 1 then b else caseX l
/-- Does the first value settle it? -/
def setX (op : Int) (d : Dat) : Bool := decide (op = 13 ∧ d.k = 1 ∧ d.i = 0 ∧ d.s = noText) || decide (op = 14 ∧ d.k = 1 ∧ d.i = 1 ∧ d.s = noText)
/-- Any other operator, from its i-th kid on, the values so far in acc. -/
def othX (op : Int) : Nat → List Dat → List Va → Va
  | _, acc, [] => if op = 17 then nulX 0 else triX (appR op acc)
  | i, acc, x :: l => if x.2 ≠ 0 then nulX x.2 else if op = 17 ∧ x.1.k ≠ 0 then (x.1, 0) else if setX op x.1 = true ∧ i = 0 then (x.1, 0) else othX op (i + 1) (acc ++ [x.1]) l
def callX (op : Int) (V : List Va) : Va := if op = 16 then caseX V else othX op 0 [] V
mutual
/-- What an expression is worth, on rows and subqueries' values. -/
def valX (env : Env) : Ex → List Dat → Va
  | ⟨k, _, _, lit, lv, col, op, _, _, kids⟩, S => if k = 1 then (lit, 0) else if k = 2 then ((colX lv col env).getD nullD, 0) else if k = 3 then callX op (valXs env kids S) else (S.headD nullD, 0)
def valXs (env : Env) : List Ex → List Dat → List Va
  | [], _ => []
  | e :: l, S => valX env e (S.take (subsX e).length) :: valXs env l (S.drop (subsX e).length)
end
theorem valX_eq (env : Env) (e : Ex) (S : List Dat) : valX env e S = if e.k = 1 then (e.lit, 0) else if e.k = 2 then ((colX e.lv e.col env).getD nullD, 0) else if e.k = 3 then callX e.op (valXs env e.kids S) else (S.headD nullD, 0) := by
  obtain ⟨k, t, nl, lit, lv, col, op, kv, sv, kids⟩ := e
  rw [valX]
theorem valXs_nil (env : Env) (S : List Dat) : valXs env [] S = [] := by rw [valXs]
theorem valXs_cons (env : Env) (e : Ex) (l : List Ex) (S : List Dat) : valXs env (e :: l) S = valX env e (S.take (subsX e).length) :: valXs env l (S.drop (subsX e).length) := by rw [valXs]
theorem valXs_length (env : Env) : ∀ (L : List Ex) (S : List Dat), (valXs env L S).length = L.length
  | [], S => by rw [valXs_nil]; rfl
  | e :: l, S => by rw [valXs_cons, List.length_cons, List.length_cons, valXs_length env l]
theorem valXs_get (env : Env) : ∀ (L : List Ex) (S : List Dat) (n : Nat) (h : n < L.length), (valXs env L S)[n]? = some (valX env L[n] ((S.drop (subsXs (L.take n)).length).take (subsX L[n]).length))
  | [], _, _, h => by simp at h
  | e :: l, S, 0, h => by
    rw [valXs_cons, List.getElem?_cons_zero, List.take_zero, subsXs_nil]
    rfl
  | e :: l, S, n + 1, h => by
    rw [valXs_cons, List.getElem?_cons_succ, valXs_get env l _ n (by simpa using h), List.take_succ_cons, subsXs_cons, List.length_append, List.drop_drop]
    rfl

/-- A value and an error come back; memory of its own alone is made. -/
def ValPost (x : Va) (w : World) (e : Ending) (w' : World) : Prop := e = .returned (.tuple #[datVal x.1, .int .i64 x.2]) ∧ Below w.heap.size w w'

set_option maxRecDepth 100000 in
set_option maxHeartbeats 8000000 in
theorem exOf_lit (t : Int) (nl : Bool) (lit : Dat) (lv col op : Int) (A sA : Option Addr) (n c sn sc : Nat) (vE vS : Value) (hvE : SliceV vE) (hvS : SliceV vS) (w : World) :
    Calls Tryd.prog 12 #[.agg #[.int .i64 1, .int .i64 t, .bool nl, .int .i64 lit.k, .int .i64 lit.i, .string lit.s, .int .i64 lv, .int .i64 col, .int .i64 op, .slice A n c, .slice sA sn sc], vE, vS] w (ValPost (lit, 0) w) := by
  obtain ⟨Ae, ne, ce, rfl⟩ := hvE
  obtain ⟨As, ns, cs, rfl⟩ := hvS
  obtain ⟨lk, li, ls⟩ := lit
  have hb1 := (Below.refl w.heap.size w).alloc (Nat.le_refl _) (.cells #[.int .i64 1, .int .i64 t, .bool nl, .int .i64 lk, .int .i64 li, .string ls, .int .i64 lv, .int .i64 col, .int .i64 op, .slice A n c, .slice sA sn sc] 27)
  have hb2 := hb1.alloc hb1.size (.cells #[.int .i64 0, .int .i64 0, .string noText] 23)
  have hb3 := hb1.alloc hb1.size (.cells #[.int .i64 lk, .int .i64 li, .string ls] 23)
  go_enter Tryd.func12, Tryd.ntmps12
  go_wp2_with fail
  refine bodyPost_ret ?_ rfl ⟨rfl, ?_⟩
  · simp [results, Tryd.results12, go_sem]
  · exact hb3

set_option maxRecDepth 100000 in
set_option maxHeartbeats 8000000 in
theorem exOf_sub (K t : Int) (nl : Bool) (lit : Dat) (lv col op : Int) (A sA : Option Addr) (n c sn sc : Nat) (vE vS : Value) (hvE : SliceV vE) (d : Dat) (h1 : K ≠ 1) (h2 : K ≠ 2) (h3 : K ≠ 3) (w : World) (hS : DatV w vS [d]) :
    Calls Tryd.prog 12 #[.agg #[.int .i64 K, .int .i64 t, .bool nl, .int .i64 lit.k, .int .i64 lit.i, .string lit.s, .int .i64 lv, .int .i64 col, .int .i64 op, .slice A n c, .slice sA sn sc], vE, vS] w (ValPost (d, 0) w) := by
  obtain ⟨Ae, ne, ce, rfl⟩ := hvE
  obtain ⟨b, off, cs, rfl, hcs, hbl, x0, x1, x2⟩ := hS.one
  obtain ⟨dk, di, ds⟩ := d
  simp only at x0 x1 x2
  have e1 : (K == 1) = false := beq_eq_false_iff_ne.2 h1
  have e2 : (K == 2) = false := beq_eq_false_iff_ne.2 h2
  have e3 : (K == 3) = false := beq_eq_false_iff_ne.2 h3
  have hb1 := (Below.refl w.heap.size w).alloc (Nat.le_refl _) (.cells #[.int .i64 K, .int .i64 t, .bool nl, .int .i64 lit.k, .int .i64 lit.i, .string lit.s, .int .i64 lv, .int .i64 col, .int .i64 op, .slice A n c, .slice sA sn sc] 27)
  have hb3 := hb1.alloc hb1.size (.cells #[.int .i64 dk, .int .i64 di, .string ds] 23)
  clear h1 h2 h3 hS
  go_enter Tryd.func12, Tryd.ntmps12
  go_wp2_with fail
  refine bodyPost_ret ?_ rfl ⟨rfl, ?_⟩
  · simp [results, Tryd.results12, go_sem]
  · exact hb3

set_option maxRecDepth 100000 in
set_option maxHeartbeats 8000000 in
theorem exOf_call (t : Int) (nl : Bool) (lit : Dat) (lv col op : Int) (A sA : Option Addr) (n c sn sc : Nat) (vE vS : Value) (hvE : SliceV vE) (hvS : SliceV vS) (x : Va) (w : World)
    (HC : Hid (∀ w', Below w.heap.size w w' → Calls Tryd.prog 20 #[.agg #[.int .i64 3, .int .i64 t, .bool nl, .int .i64 lit.k, .int .i64 lit.i, .string lit.s, .int .i64 lv, .int .i64 col, .int .i64 op, .slice A n c, .slice sA sn sc], vE, vS] w' (ValPost x w'))) :
    Calls Tryd.prog 12 #[.agg #[.int .i64 3, .int .i64 t, .bool nl, .int .i64 lit.k, .int .i64 lit.i, .string lit.s, .int .i64 lv, .int .i64 col, .int .i64 op, .slice A n c, .slice sA sn sc], vE, vS] w (ValPost x w) := by
  obtain ⟨Ae, ne, ce, rfl⟩ := hvE
  obtain ⟨As, ns, cs, rfl⟩ := hvS
  obtain ⟨⟨xk, xi, xs⟩, xf⟩ := x
  have hb1 := (Below.refl w.heap.size w).alloc (Nat.le_refl _) (.cells #[.int .i64 3, .int .i64 t, .bool nl, .int .i64 lit.k, .int .i64 lit.i, .string lit.s, .int .i64 lv, .int .i64 col, .int .i64 op, .slice A n c, .slice sA sn sc] 27)
  have hb2 := hb1.alloc hb1.size (.cells #[.int .i64 0, .int .i64 0, .string noText] 23)
  have bR := Blk.new (w.alloc (.cells #[.int .i64 3, .int .i64 t, .bool nl, .int .i64 lit.k, .int .i64 lit.i, .string lit.s, .int .i64 lv, .int .i64 col, .int .i64 op, .slice A n c, .slice sA sn sc] 27)) #[.int .i64 0, .int .i64 0, .string noText] 23
  rw [show (w.alloc (.cells #[.int .i64 3, .int .i64 t, .bool nl, .int .i64 lit.k, .int .i64 lit.i, .string lit.s, .int .i64 lv, .int .i64 col, .int .i64 op, .slice A n c, .slice sA sn sc] 27)).heap.size = w.heap.size + 1 by simp] at bR
  go_enter Tryd.func12, Tryd.ntmps12
  go_wp2_with (go_at_call 20; have hC := HC.out _ hb2; (with_reducible refine hC.mono ?_); clear hC; rintro e w7 ⟨rfl, hb7⟩; have bR7 := bR.below hb7; have h7 := hb2.trans (hb7.mono hb2.size); have r0 := bR7.cell 0; have r1 := bR7.cell 1; have r2 := bR7.cell 2; have f0 := bR7.frozen 0; have f1 := bR7.frozen 1; have f2 := bR7.frozen 2; simp only [List.getElem?_toArray, List.getElem?_cons_zero, List.getElem?_cons_succ] at r0 r1 r2)
  refine bodyPost_ret ?_ rfl ⟨rfl, ?_⟩
  · simp [results, Tryd.results12, go_sem, r0, r1, r2]
  · exact (((h7.setCell (by simp; try omega) _).setCell (by simp; try omega) _).setCell (by simp; try omega) _)

set_option maxRecDepth 100000 in
set_option maxHeartbeats 8000000 in
theorem exOf_col (t : Int) (nl : Bool) (lit : Dat) (lv col op : Int) (A sA : Option Addr) (n c sn sc : Nat) (vE vS : Value) (hvS : SliceV vS) (env : Env) (w : World) (hE : EnvV w vE env) (d : Dat) (hd : colX lv col env = some d) :
    Calls Tryd.prog 12 #[.agg #[.int .i64 2, .int .i64 t, .bool nl, .int .i64 lit.k, .int .i64 lit.i, .string lit.s, .int .i64 lv, .int .i64 col, .int .i64 op, .slice A n c, .slice sA sn sc], vE, vS] w (ValPost (d, 0) w) := by
  obtain ⟨As, ns, cs, rfl⟩ := hvS
  obtain ⟨Ae, ce, rfl, hce, hme⟩ := hE.slice
  have hb1 := (Below.refl w.heap.size w).alloc (Nat.le_refl _) (.cells #[.int .i64 2, .int .i64 t, .bool nl, .int .i64 lit.k, .int .i64 lit.i, .string lit.s, .int .i64 lv, .int .i64 col, .int .i64 op, .slice A n c, .slice sA sn sc] 27)
  obtain ⟨i, j, rfl, rfl, hi, hj, rfl⟩ : ∃ i j : Nat, lv = i ∧ col = j ∧ ∃ (hi : i < env.length) (hj : j < env[i].l.length), d = env[i].l[j] := by
    unfold colX at hd
    split at hd
    · rename_i hs
      cases he : env[lv.toNat]? with
      | none => rw [he] at hd; cases hd
      | some r =>
        rw [he] at hd
        simp only [Option.bind_some] at hd
        obtain ⟨hi, hr⟩ := List.getElem?_eq_some_iff.mp he
        obtain ⟨hj, hq⟩ := List.getElem?_eq_some_iff.mp hd
        subst hr
        exact ⟨lv.toNat, col.toNat, by omega, by omega, hi, hj, hq.symm⟩
    · cases hd
  have hi' : (i : Int) < env.length := by omega
  have hi0 : (0 : Int) ≤ i := by omega
  have hj' : (j : Int) < env[i].l.length := by omega
  have hj0 : (0 : Int) ≤ j := by omega
  obtain ⟨b, off, B, m, rfl, hbl, hcell, hrow⟩ := hE.row i hi
  have hcell1 := (hb1.cell (p := ⟨b, off + i, none⟩) hbl).trans hcell
  obtain ⟨b2, off2, rfl, hbl2, x0, x1, x2⟩ := DatV.nth hrow j hj
  clear hE hd hrow
  revert x0 x1 x2 hj'
  generalize env[i].l[j] = d
  obtain ⟨dk, di, ds⟩ := d
  intro x0 x1 x2 hj'
  simp only at x0 x1 x2
  have hb3 := hb1.alloc hb1.size (.cells #[.int .i64 dk, .int .i64 di, .string ds] 23)
  go_enter Tryd.func12, Tryd.ntmps12
  go_wp2_with fail
  go_region
  all_goals go_wp2_with fail
  all_goals refine bodyPost_ret ?_ rfl ⟨rfl, ?_⟩
  all_goals first
    | exact hb3.drew
    | simp [results, Tryd.results12, go_sem]

end Go.Proofs.YtbjcebnahllnjaaDoor

namespace Go.Proofs.YtbjcebnahllnjaaDoor
open Go.RowKit

/-- A world in which all that W has is as it was. -/
structure Kept (W : World) where
  w : World
  h : Below W.heap.size W w

instance keptNonempty (W : World) : Nonempty (Kept W) := ⟨⟨W, Below.refl _ _⟩⟩

theorem wp_region_kept {P : Program} {id : Nat} {Q : Exit → Act → World → Prop} {a : Act} {W : World} {l : List Oper} (hm : P.follows .mixedOrders = true) (hB : Region.lexB .any l.toArray = true)
    (h : wpQuiet P l.toArray (fun w' => ∃ n : Kept W, w' = n.w) (fun a' => ∀ w', (∃ n : Kept W, w' = n.w) → Q .normal a' w') l a) : (Code.region id l.toArray true).wp P Q a W :=
  wp_region_quiet (C := fun w' => ∃ n : Kept W, w' = n.w) hm hB ⟨⟨W.drew, (Below.refl _ _).drew⟩, rfl⟩ (by simpa using h)

theorem Calls.kept {P : Program} {f : FuncId} {args : Array Value} {W : World} {n : Kept W} {v : Value}
    (h : Calls P f args n.w fun e w' => e = .returned v ∧ Below n.w.heap.size n.w w') : Calls P f args n.w fun e w'' => e = .returned v ∧ ∃ m : Kept W, w'' = m.w :=
  h.mono fun _ w' ⟨he, hb⟩ => ⟨he, ⟨w', n.h.trans (hb.mono n.h.size)⟩, rfl⟩

theorem Kept.cell {W : World} {a : Addr} {v : Value} (h : W.cell? a = some v) (n : Kept W) : n.w.cell? a = some v := (n.h.cell (World.block_lt_of_cell? _ _ h)).trans h

end Go.Proofs.YtbjcebnahllnjaaDoor

namespace Go.Proofs.YtbjcebnahllnjaaDoor
open Go.RowKit

/-- A part of a list of values. -/
theorem DatV.part {w : World} {A : Option Addr} {c : Nat} {S : List Dat} (h : DatV w (.slice A S.length c) S) (i j : Nat) (hi : i ≤ j) (hj : j ≤ S.length) (hc : j ≤ c) :
    DatV w (.slice (if c = i then A else A.map (fun a => ⟨a.block, a.off + i * 3, none⟩)) (j - i) (c - i)) ((S.drop i).take (j - i)) := by
  have hlen : ((S.drop i).take (j - i)).length = j - i := by rw [List.length_take, List.length_drop]; omega
  rcases h with ⟨⟨A1, e⟩, rfl⟩ | ⟨b, off, c', e, hm, hb, hat, hcc⟩
  · injection e with e1 e2 e3
    subst e1 e3
    simp only [List.length_nil] at hj
    obtain rfl : i = 0 := by omega
    obtain rfl : j = 0 := by omega
    exact .inl ⟨⟨_, rfl⟩, rfl⟩
  · injection e with e1 e2 e3
    subst e1 e3
    have hat' : AtG encDat 3 w b (off + i * 3) ((S.drop i).take (j - i)) := by
      intro n x hn r u hr
      rw [List.getElem?_take] at hn
      split at hn
      · rw [List.getElem?_drop] at hn
        have := hat (i + n) x hn r u hr
        rw [show off + i * 3 + n * 3 + r = off + (i + n) * 3 + r by omega]
        exact this
      · cases hn
    by_cases hci : c = i
    · rw [if_pos hci]
      have h0 : (S.drop i).take (j - i) = [] := List.eq_nil_of_length_eq_zero (by rw [hlen]; omega)
      rw [h0] at *
      refine .inr ⟨b, off, c - i, by rw [show j - i = 0 by omega]; rfl, by simp, hb, ?_, by simp⟩
      intro n x hn
      simp at hn
    · rw [if_neg hci]
      refine .inr ⟨b, off + i * 3, c - i, ?_, ?_, hb, hat', ?_⟩
      · rw [hlen]; rfl
      · rw [hlen]; omega
      · rw [hlen]; omega

set_option maxRecDepth 100000 in
set_option maxHeartbeats 8000000 in
theorem exKid_any {w0 : World} (k t : Int) (nl : Bool) (lit : Dat) (lv col op : Int) (A sA : Option Addr) (c sn sc : Nat) (kids : List Ex) (vE : Value) (hvE : SliceV vE) (vS : Value) (S : List Dat) (env : Env)
    (hv : ExsV w0 (.slice A kids.length c) kids) (hk : ∀ x ∈ kids, ExOk w0 x) (hS : DatV w0 vS S) (hl : S.length = (subsXs kids).length) (hl1 : (subsXs kids).length ≤ 1048576)
    (n : Nat) (hn : n < kids.length)
    (HOF : Hid (∀ w v' S', Below w0.heap.size w0 w → DatV w v' S' → S'.length = (subsX kids[n]).length → (∀ d ∈ S', d ∈ S) → Calls Tryd.prog 12 #[exVal kids[n], vE, v'] w (ValPost (valX env kids[n] S') w)))
    (x : Va) (hx : (valXs env kids S)[n]? = some x) (w : World) (hb0 : Below w0.heap.size w0 w) :
    Calls Tryd.prog 32 #[.agg #[.int .i64 k, .int .i64 t, .bool nl, .int .i64 lit.k, .int .i64 lit.i, .string lit.s, .int .i64 lv, .int .i64 col, .int .i64 op, .slice A kids.length c, .slice sA sn sc], .int .i64 n, vE, vS] w (ValPost x w) := by
  rw [valXs_get env kids S n hn] at hx
  injection hx with hx
  obtain ⟨Ae, ne, ce, rfl⟩ := hvE
  obtain ⟨As, cs, rfl, hcs, hms⟩ := hS.len
  have HV := Lib.hid hv
  have HK := Lib.hid hk
  have HS := Lib.hid hS
  have HL := Lib.hid hl
  have HL1 := Lib.hid hl1
  have HN := Lib.hid hn
  have hmk := hv.slice
  obtain ⟨_, _, e, _, hmk⟩ := hmk
  clear e
  unfold maxLen at hmk
  clear hv hk hS hl hl1
  obtain ⟨lk, li, ls⟩ := lit
  have hb1 := (Below.refl w.heap.size w).alloc (Nat.le_refl _) (.cells #[.int .i64 k, .int .i64 t, .bool nl, .int .i64 lk, .int .i64 li, .string ls, .int .i64 lv, .int .i64 col, .int .i64 op, .slice A kids.length c, .slice sA sn sc] 27)
  have hb2 := hb1.alloc hb1.size (.cells #[.int .i64 0, .int .i64 0, .string noText] 23)
  have bX := (Blk.new w #[.int .i64 k, .int .i64 t, .bool nl, .int .i64 lk, .int .i64 li, .string ls, .int .i64 lv, .int .i64 col, .int .i64 op, .slice A kids.length c, .slice sA sn sc] 27).alloc (.cells #[.int .i64 0, .int .i64 0, .string noText] 23)
  have bR := Blk.new (w.alloc (.cells #[.int .i64 k, .int .i64 t, .bool nl, .int .i64 lk, .int .i64 li, .string ls, .int .i64 lv, .int .i64 col, .int .i64 op, .slice A kids.length c, .slice sA sn sc] 27)) #[.int .i64 0, .int .i64 0, .string noText] 23
  rw [show (w.alloc (.cells #[.int .i64 k, .int .i64 t, .bool nl, .int .i64 lk, .int .i64 li, .string ls, .int .i64 lv, .int .i64 col, .int .i64 op, .slice A kids.length c, .slice sA sn sc] 27)).heap.size = w.heap.size + 1 by simp] at bR
  go_enter Tryd.func32, Tryd.ntmps32
  go_wp2_with fail
  go_loopw [10, 11] (fun f i wr => ∃ j : Nat, i = .int .i64 j ∧ j ≤ n ∧ f = .int .i64 ((subsXs (kids.take j)).length : Int) ∧ Below w.heap.size w wr ∧ Blk wr w.heap.size #[.int .i64 k, .int .i64 t, .bool nl, .int .i64 lk, .int .i64 li, .string ls, .int .i64 lv, .int .i64 col, .int .i64 op, .slice A kids.length c, .slice sA sn sc] 27 ∧ Blk wr (w.heap.size + 1) #[.int .i64 0, .int .i64 0, .string noText] 23) (fun _ i _ => n - (intOf i).toNat)
  case atStart => exact ⟨0, rfl, Nat.zero_le _, by rw [List.take_zero, subsXs_nil]; rfl, hb2, bX, bR⟩
  case round =>
    clear hb1 hb2 bX bR
    obtain ⟨j, rfl, hj, rfl, hb, bX, bR⟩ := hrel
    have y9 := bX.cell 9
    simp only [List.getElem?_toArray, List.getElem?_cons_zero, List.getElem?_cons_succ] at y9
    have hlt : j < kids.length := by have := HN.out; omega
    have hbw := hb0.trans (hb.mono hb0.size)
    rcases HV.out with ⟨_, h0⟩ | ⟨b, off, c', e, _, hbl, hat, _⟩
    · rw [h0] at hlt; simp at hlt
    · injection e with e1 e2 e3
      subst e1 e3
      have hle0 := subsXs_le kids (j + 1)
      have HT := Lib.hid (subsXs_take kids j hlt)
      rw [HT.out, List.length_append] at hle0
      have hle1 := HL1.out
      have hls := HL.out
      have HM : Hid (kids[j] ∈ kids) := List.getElem_mem hlt
      have HOK := HK.out kids[j] HM.out
      have HC := Lib.hid (subs_any HOK (by omega))
      obtain ⟨Ak, ck, hkv, _, _⟩ := HOK.kv.slice
      obtain ⟨A2, n2, c2, hsv⟩ := HOK.sv
      by_cases hjn : j < n
      · obtain ⟨x0, x1, x2, x3, x4, x5, x6, x7, x8, x9, x10⟩ := (hat.block (hbw.block b hbl)).ex j hlt
        have hjn' : (j : Int) < n := by omega
        have hj9 : (j : Int) + 1 ≤ 9223372036854775807 := by omega
        have hs9 : ((subsXs (kids.take j)).length : Int) + (subsX kids[j]).length ≤ 9223372036854775807 := by omega
        have hs0 : (-9223372036854775808 : Int) ≤ ((subsXs (kids.take j)).length : Int) + (subsX kids[j]).length := by omega
        have hlt' : (j : Int) < kids.length := by omega
        clear hat hle0 hle1 hls HOK HM hx HOF
        revert HT HC hkv hsv x0 x1 x2 x3 x4 x5 x6 x7 x8 x9 x10 hs9 hs0
        generalize kids[j] = y
        intro HT HC hkv hsv x0 x1 x2 x3 x4 x5 x6 x7 x8 x9 x10 hs9 hs0
        rw [hkv] at x9
        rw [hsv] at x10
        have hC2 := HC.out wr hbw
        unfold exVal at hC2
        rw [hkv, hsv] at hC2
        have HC2 := Lib.hid hC2
        clear HC hkv hsv hC2
        go_wp2_with (go_at_call 8; (with_reducible refine HC2.out.mono ?_); rintro e w7 ⟨A7, c7, rfl, ho7, hb7⟩; have h7 := hb.trans (hb7.mono hb.size); have bX7 := bX.below hb7; have bR7 := bR.below hb7)
        refine ⟨⟨j + 1, by go_num, by omega, by rw [HT.out, List.length_append]; go_num, h7, bX7, bR7⟩, ?_⟩
        simp [intOf]
        try go_num
      · obtain rfl : j = n := by omega
        clear hj
        obtain ⟨x0, x1, x2, x3, x4, x5, x6, x7, x8, x9, x10⟩ := (hat.block (hbw.block b hbl)).ex j hlt
        have hs9 : ((subsXs (kids.take j)).length : Int) + (subsX kids[j]).length ≤ 9223372036854775807 := by omega
        have hs0 : (-9223372036854775808 : Int) ≤ ((subsXs (kids.take j)).length : Int) + (subsX kids[j]).length := by omega
        have hlt' : (j : Int) < kids.length := by omega
        have hq : (subsXs (kids.take j)).length + (subsX kids[j]).length ≤ S.length := by omega
        have HP0 := HS.out.part (subsXs (kids.take j)).length ((subsXs (kids.take j)).length + (subsX kids[j]).length) (by omega) hq (by omega)
        rw [Nat.add_sub_cancel_left] at HP0
        have HP := Lib.hid HP0
        clear HP0
        have HAS : Hid (cs = (subsXs (kids.take j)).length ∨ ∃ bs os, As = some ⟨bs, os, none⟩) := by
          rcases HS.out with ⟨⟨A1, e⟩, h0⟩ | ⟨bs, os, c', e, _⟩
          · left
            injection e with e1 e2 e3
            have h00 := congrArg List.length h0
            simp only [List.length_nil] at h00
            omega
          · right
            injection e with e1 e2 e3
            exact ⟨bs, os, e1⟩
        have HPL : Hid (((S.drop (subsXs (kids.take j)).length).take (subsX kids[j]).length).length = (subsX kids[j]).length) := by unfold Hid; rw [List.length_take, List.length_drop]; omega
        have HSB : Hid (∀ d ∈ (S.drop (subsXs (kids.take j)).length).take (subsX kids[j]).length, d ∈ S) := fun d hd => List.mem_of_mem_drop (List.mem_of_mem_take hd)
        have hz2 := Lib.hid hx
        have hbne : b ≠ w.heap.size + 1 := by have := hb0.size; omega
        clear hx hat hle0 hle1 hls HOK HM HT HK HV HL HL1 HS
        revert HSB HAS HPL HP HOF HC hkv hsv x0 x1 x2 x3 x4 x5 x6 x7 x8 x9 x10 hs9 hs0 hq hz2
        generalize (S.drop (subsXs (kids.take j)).length).take (subsX kids[j]).length = S'
        generalize (subsXs (kids.take j)).length = from_
        generalize kids[j] = y
        intro HC hkv hsv HOF x0 x1 x2 x3 x4 x5 x6 x7 x8 x9 x10 hs9 hs0 hq HP HAS HPL HSB hz2
        rw [hkv] at x9
        rw [hsv] at x10
        have hC2 := HC.out wr hbw
        unfold exVal at hC2
        rw [hkv, hsv] at hC2
        have HC2 := Lib.hid hC2
        have HO2 : Hid (∀ w v' S', Below w0.heap.size w0 w → DatV w v' S' → S'.length = (subsX y).length → (∀ d ∈ S', d ∈ S) → Calls Tryd.prog 12 #[.agg #[.int .i64 y.k, .int .i64 y.t, .bool y.nl, .int .i64 y.lit.k, .int .i64 y.lit.i, .string y.lit.s, .int .i64 y.lv, .int .i64 y.col, .int .i64 y.op, .slice Ak y.kids.length ck, .slice A2 n2 c2], .slice Ae ne ce, v'] w (ValPost (valX env y S') w)) := by
          have h := HOF.out
          unfold exVal at h
          rw [hkv, hsv] at h
          exact h
        clear HC hkv hsv hC2 HOF
        have hq1 : ((from_ : Int) + ((subsX y).length : Int)) ≤ cs := by omega
        have hq0 : (0 : Int) ≤ (from_ : Int) := by omega
        have hq2 : (from_ : Int) ≤ (from_ : Int) + ((subsX y).length : Int) := by omega
        have hq3 : ((from_ : Int) + ((subsX y).length : Int)) ≤ S.length := by omega
        have hbr := hbw.size
        have hbr := Nat.lt_of_lt_of_le hbl hbr
        have hwr := bX.lt
        obtain ⟨⟨xk, xi, xs⟩, xf⟩ := x
        go_upto_region 7 with (go_at_call 8; (with_reducible refine HC2.out.mono ?_); rintro e w7 ⟨A7, c7, rfl, ho7, hb7⟩; have h7 := hb.trans (hb7.mono hb.size); have bX7 := bX.below hb7; have bR7 := bR.below hb7; have hbr7 := Nat.lt_of_lt_of_le hbr hb7.size; have hwr7 := Nat.lt_of_lt_of_le hwr hb7.size; have z0 := (hb7.cell (p := ⟨b, off + j * 11, none⟩) hbr).trans x0; have z1 := (hb7.cell (p := ⟨b, off + j * 11 + 1, none⟩) hbr).trans x1; have z2 := (hb7.cell (p := ⟨b, off + j * 11 + 2, none⟩) hbr).trans x2; have z3 := (hb7.cell (p := ⟨b, off + j * 11 + 3, none⟩) hbr).trans x3; have z4 := (hb7.cell (p := ⟨b, off + j * 11 + 4, none⟩) hbr).trans x4; have z5 := (hb7.cell (p := ⟨b, off + j * 11 + 5, none⟩) hbr).trans x5; have z6 := (hb7.cell (p := ⟨b, off + j * 11 + 6, none⟩) hbr).trans x6; have z7 := (hb7.cell (p := ⟨b, off + j * 11 + 7, none⟩) hbr).trans x7; have z8 := (hb7.cell (p := ⟨b, off + j * 11 + 8, none⟩) hbr).trans x8; have z9 := (hb7.cell (p := ⟨b, off + j * 11 + 9, none⟩) hbr).trans x9; have z10 := (hb7.cell (p := ⟨b, off + j * 11 + 10, none⟩) hbr).trans x10; have zy := (hb7.cell (p := ⟨w.heap.size, 9, none⟩) hwr).trans y9)
        have HO8 := Lib.hid (HO2.out w7.drew _ _ (hb0.trans (h7.drew.mono hb0.size)) (HP.out.below ((hb0.trans (h7.drew.mono hb0.size)))) HPL.out HSB.out)
        rw [hz2.out] at HO8
        have t1 : ((from_ : Int) + ((subsX y).length : Int)).toNat = from_ + (subsX y).length := by omega
        have t2 : from_ + (subsX y).length - from_ = (subsX y).length := by omega
        clear HP HPL HSB hz2 HO2 HC2 ho7 y9 x0 x1 x2 x3 x4 x5 x6 x7 x8 x9 x10
        by_cases hci : cs = from_
        · rw [if_pos hci] at HO8
          subst hci
          rw [Nat.sub_self] at HO8
          go_region_held3 (fun w' => w'.cell? ⟨b, off + j * 11, none⟩ = some (.int .i64 y.k) ∧ w'.cell? ⟨b, off + j * 11 + 1, none⟩ = some (.int .i64 y.t) ∧ w'.cell? ⟨b, off + j * 11 + 2, none⟩ = some (.bool y.nl) ∧ w'.cell? ⟨b, off + j * 11 + 3, none⟩ = some (.int .i64 y.lit.k) ∧ w'.cell? ⟨b, off + j * 11 + 4, none⟩ = some (.int .i64 y.lit.i) ∧ w'.cell? ⟨b, off + j * 11 + 5, none⟩ = some (.string y.lit.s) ∧ w'.cell? ⟨b, off + j * 11 + 6, none⟩ = some (.int .i64 y.lv) ∧ w'.cell? ⟨b, off + j * 11 + 7, none⟩ = some (.int .i64 y.col) ∧ w'.cell? ⟨b, off + j * 11 + 8, none⟩ = some (.int .i64 y.op) ∧ w'.cell? ⟨b, off + j * 11 + 9, none⟩ = some (.slice Ak y.kids.length ck) ∧ w'.cell? ⟨b, off + j * 11 + 10, none⟩ = some (.slice A2 n2 c2) ∧ w'.cell? ⟨w.heap.size, 9, none⟩ = some (.slice (some ⟨b, off, none⟩) kids.length c)) (first | exact ⟨z0, z1, z2, z3, z4, z5, z6, z7, z8, z9, z10, zy⟩ | exact ⟨g0, g1, g2, g3, g4, g5, g6, g7, g8, g9, g10, gy⟩ | exact ⟨cell_set3 hbne g0, cell_set3 hbne g1, cell_set3 hbne g2, cell_set3 hbne g3, cell_set3 hbne g4, cell_set3 hbne g5, cell_set3 hbne g6, cell_set3 hbne g7, cell_set3 hbne g8, cell_set3 hbne g9, cell_set3 hbne g10, cell_set3 (by omega) gy⟩) ((first
            | (go_at_call 12; (with_reducible refine HO8.out.mono ?_); rintro e w8 ⟨rfl, hb8⟩; have h8 := h7.drew.trans (hb8.mono h7.drew.size); have bR8 := bR7.drew.below hb8; have g0 := (hb8.cell (p := ⟨b, off + j * 11, none⟩) hbr7).trans z0; have g1 := (hb8.cell (p := ⟨b, off + j * 11 + 1, none⟩) hbr7).trans z1; have g2 := (hb8.cell (p := ⟨b, off + j * 11 + 2, none⟩) hbr7).trans z2; have g3 := (hb8.cell (p := ⟨b, off + j * 11 + 3, none⟩) hbr7).trans z3; have g4 := (hb8.cell (p := ⟨b, off + j * 11 + 4, none⟩) hbr7).trans z4; have g5 := (hb8.cell (p := ⟨b, off + j * 11 + 5, none⟩) hbr7).trans z5; have g6 := (hb8.cell (p := ⟨b, off + j * 11 + 6, none⟩) hbr7).trans z6; have g7 := (hb8.cell (p := ⟨b, off + j * 11 + 7, none⟩) hbr7).trans z7; have g8 := (hb8.cell (p := ⟨b, off + j * 11 + 8, none⟩) hbr7).trans z8; have g9 := (hb8.cell (p := ⟨b, off + j * 11 + 9, none⟩) hbr7).trans z9; have g10 := (hb8.cell (p := ⟨b, off + j * 11 + 10, none⟩) hbr7).trans z10; have gy := (hb8.cell (p := ⟨w.heap.size, 9, none⟩) hwr7).trans zy; have r0 := bR8.cell 0; have r1 := bR8.cell 1; have r2 := bR8.cell 2; have f0 := bR8.frozen 0; have f1 := bR8.frozen 1; have f2 := bR8.frozen 2; simp only [List.getElem?_toArray, List.getElem?_cons_zero, List.getElem?_cons_succ] at r0 r1 r2)))
          go_step
          go_step
          go_wp2_with fail
          refine bodyPost_ret ?_ rfl ⟨rfl, ?_⟩
          · simp [results, Tryd.results32, go_sem, r0, r1, r2]
          · exact (((h8.setCell (by simp; try omega) _).setCell (by simp; try omega) _).setCell (by simp; try omega) _)
        · rw [if_neg hci] at HO8
          rcases HAS.out with h | ⟨bs, os, rfl⟩
          · exact absurd h hci
          simp only [Option.map_some] at HO8
          go_region_held3 (fun w' => w'.cell? ⟨b, off + j * 11, none⟩ = some (.int .i64 y.k) ∧ w'.cell? ⟨b, off + j * 11 + 1, none⟩ = some (.int .i64 y.t) ∧ w'.cell? ⟨b, off + j * 11 + 2, none⟩ = some (.bool y.nl) ∧ w'.cell? ⟨b, off + j * 11 + 3, none⟩ = some (.int .i64 y.lit.k) ∧ w'.cell? ⟨b, off + j * 11 + 4, none⟩ = some (.int .i64 y.lit.i) ∧ w'.cell? ⟨b, off + j * 11 + 5, none⟩ = some (.string y.lit.s) ∧ w'.cell? ⟨b, off + j * 11 + 6, none⟩ = some (.int .i64 y.lv) ∧ w'.cell? ⟨b, off + j * 11 + 7, none⟩ = some (.int .i64 y.col) ∧ w'.cell? ⟨b, off + j * 11 + 8, none⟩ = some (.int .i64 y.op) ∧ w'.cell? ⟨b, off + j * 11 + 9, none⟩ = some (.slice Ak y.kids.length ck) ∧ w'.cell? ⟨b, off + j * 11 + 10, none⟩ = some (.slice A2 n2 c2) ∧ w'.cell? ⟨w.heap.size, 9, none⟩ = some (.slice (some ⟨b, off, none⟩) kids.length c)) (first | exact ⟨z0, z1, z2, z3, z4, z5, z6, z7, z8, z9, z10, zy⟩ | exact ⟨g0, g1, g2, g3, g4, g5, g6, g7, g8, g9, g10, gy⟩ | exact ⟨cell_set3 hbne g0, cell_set3 hbne g1, cell_set3 hbne g2, cell_set3 hbne g3, cell_set3 hbne g4, cell_set3 hbne g5, cell_set3 hbne g6, cell_set3 hbne g7, cell_set3 hbne g8, cell_set3 hbne g9, cell_set3 hbne g10, cell_set3 (by omega) gy⟩) ((first
            | (go_at_call 12; (with_reducible refine HO8.out.mono ?_); rintro e w8 ⟨rfl, hb8⟩; have h8 := h7.drew.trans (hb8.mono h7.drew.size); have bR8 := bR7.drew.below hb8; have g0 := (hb8.cell (p := ⟨b, off + j * 11, none⟩) hbr7).trans z0; have g1 := (hb8.cell (p := ⟨b, off + j * 11 + 1, none⟩) hbr7).trans z1; have g2 := (hb8.cell (p := ⟨b, off + j * 11 + 2, none⟩) hbr7).trans z2; have g3 := (hb8.cell (p := ⟨b, off + j * 11 + 3, none⟩) hbr7).trans z3; have g4 := (hb8.cell (p := ⟨b, off + j * 11 + 4, none⟩) hbr7).trans z4; have g5 := (hb8.cell (p := ⟨b, off + j * 11 + 5, none⟩) hbr7).trans z5; have g6 := (hb8.cell (p := ⟨b, off + j * 11 + 6, none⟩) hbr7).trans z6; have g7 := (hb8.cell (p := ⟨b, off + j * 11 + 7, none⟩) hbr7).trans z7; have g8 := (hb8.cell (p := ⟨b, off + j * 11 + 8, none⟩) hbr7).trans z8; have g9 := (hb8.cell (p := ⟨b, off + j * 11 + 9, none⟩) hbr7).trans z9; have g10 := (hb8.cell (p := ⟨b, off + j * 11 + 10, none⟩) hbr7).trans z10; have gy := (hb8.cell (p := ⟨w.heap.size, 9, none⟩) hwr7).trans zy; have r0 := bR8.cell 0; have r1 := bR8.cell 1; have r2 := bR8.cell 2; have f0 := bR8.frozen 0; have f1 := bR8.frozen 1; have f2 := bR8.frozen 2; simp only [List.getElem?_toArray, List.getElem?_cons_zero, List.getElem?_cons_succ] at r0 r1 r2)))
          go_step
          go_step
          go_wp2_with fail
          refine bodyPost_ret ?_ rfl ⟨rfl, ?_⟩
          · simp [results, Tryd.results32, go_sem, r0, r1, r2]
          · exact (((h8.setCell (by simp; try omega) _).setCell (by simp; try omega) _).setCell (by simp; try omega) _)

end Go.Proofs.YtbjcebnahllnjaaDoor

namespace Go.Proofs.YtbjcebnahllnjaaDoor
open Go.RowKit

theorem case_more {V : List Va} {n : Nat} (h : n + 1 < V.length) : caseX (V.drop n) = if (V[n]'(by omega)).2 ≠ 0 then nulX (V[n]'(by omega)).2 else if 1 < (V[n]'(by omega)).1.k then nulX 5 else if (V[n]'(by omega)).1.k = 1 ∧ (V[n]'(by omega)).1.i = 1 then V[n + 1] else caseX (V.drop (n + 2)) := by
  rw [List.drop_eq_getElem_cons (by omega : n < V.length), List.drop_eq_getElem_cons h, caseX]
theorem case_last {V : List Va} {n : Nat} (h : n < V.length) (h1 : n + 1 = V.length) : caseX (V.drop n) = V[n] := by
  rw [List.drop_eq_getElem_cons h, List.drop_eq_nil_of_le (by omega), caseX]
theorem case_none {V : List Va} {n : Nat} (h : n = V.length) : caseX (V.drop n) = nulX 0 := by
  rw [List.drop_eq_nil_of_le (by omega), caseX]
theorem oth_more {op : Int} {V : List Va} {n : Nat} {acc : List Dat} (h : n < V.length) : othX op n acc (V.drop n) = if V[n].2 ≠ 0 then nulX V[n].2 else if op = 17 ∧ V[n].1.k ≠ 0 then (V[n].1, 0) else if setX op V[n].1 = true ∧ n = 0 then (V[n].1, 0) else othX op (n + 1) (acc ++ [V[n].1]) (V.drop (n + 1)) := by
  rw [List.drop_eq_getElem_cons h, othX]
theorem oth_none {op : Int} {V : List Va} {n : Nat} {acc : List Dat} (h : n = V.length) : othX op n acc (V.drop n) = if op = 17 then nulX 0 else triX (appR op acc) := by
  rw [List.drop_eq_nil_of_le (by omega), othX]

set_option maxRecDepth 100000 in
set_option maxHeartbeats 8000000 in
theorem exCall_case (k t : Int) (nl : Bool) (lit : Dat) (lv col : Int) (A sA : Option Addr) (m c sn sc : Nat) (vE vS : Value) (hvE : SliceV vE) (hvS : SliceV vS) (V : List Va) (hV : V.length = m) (hm : m ≤ maxLen) (w : World)
    (HK : Hid (∀ (n : Nat) (hn : n < V.length) (w' : World), Below w.heap.size w w' → Calls Tryd.prog 32 #[.agg #[.int .i64 k, .int .i64 t, .bool nl, .int .i64 lit.k, .int .i64 lit.i, .string lit.s, .int .i64 lv, .int .i64 col, .int .i64 16, .slice A m c, .slice sA sn sc], .int .i64 n, vE, vS] w' (ValPost V[n] w'))) :
    Calls Tryd.prog 20 #[.agg #[.int .i64 k, .int .i64 t, .bool nl, .int .i64 lit.k, .int .i64 lit.i, .string lit.s, .int .i64 lv, .int .i64 col, .int .i64 16, .slice A m c, .slice sA sn sc], vE, vS] w (ValPost (caseX V) w) := by
  obtain ⟨Ae, ne, ce, rfl⟩ := hvE
  obtain ⟨As, ns, cs, rfl⟩ := hvS
  unfold maxLen at hm
  have hb1 := (Below.refl w.heap.size w).alloc (Nat.le_refl _) (.cells #[.int .i64 k, .int .i64 t, .bool nl, .int .i64 lit.k, .int .i64 lit.i, .string lit.s, .int .i64 lv, .int .i64 col, .int .i64 16, .slice A m c, .slice sA sn sc] 27)
  have hb2 := hb1.alloc hb1.size (.cells #[.int .i64 0, .int .i64 0, .string noText] 23)
  have bX := (Blk.new w #[.int .i64 k, .int .i64 t, .bool nl, .int .i64 lit.k, .int .i64 lit.i, .string lit.s, .int .i64 lv, .int .i64 col, .int .i64 16, .slice A m c, .slice sA sn sc] 27).alloc (.cells #[.int .i64 0, .int .i64 0, .string noText] 23)
  have bR := Blk.new (w.alloc (.cells #[.int .i64 k, .int .i64 t, .bool nl, .int .i64 lit.k, .int .i64 lit.i, .string lit.s, .int .i64 lv, .int .i64 col, .int .i64 16, .slice A m c, .slice sA sn sc] 27)) #[.int .i64 0, .int .i64 0, .string noText] 23
  rw [show (w.alloc (.cells #[.int .i64 k, .int .i64 t, .bool nl, .int .i64 lit.k, .int .i64 lit.i, .string lit.s, .int .i64 lv, .int .i64 col, .int .i64 16, .slice A m c, .slice sA sn sc] 27)).heap.size = w.heap.size + 1 by simp] at bR
  go_enter Tryd.func20, Tryd.ntmps20
  go_wp2_with fail
  go_loopw [9] (fun i wr => ∃ n : Nat, i = .int .i64 n ∧ n ≤ m ∧ Hid (n % 2 = 0 ∧ caseX V = caseX (V.drop n)) ∧ Below w.heap.size w wr ∧ Blk wr w.heap.size #[.int .i64 k, .int .i64 t, .bool nl, .int .i64 lit.k, .int .i64 lit.i, .string lit.s, .int .i64 lv, .int .i64 col, .int .i64 16, .slice A m c, .slice sA sn sc] 27 ∧ Blk wr (w.heap.size + 1) #[.int .i64 0, .int .i64 0, .string noText] 23) (fun i _ => m - (intOf i).toNat)
  case atStart => exact ⟨0, rfl, Nat.zero_le _, ⟨rfl, rfl⟩, hb2, bX, bR⟩
  case round =>
    clear hb1 hb2 bX bR
    obtain ⟨n, rfl, hn, HQ, hb, bX, bR⟩ := hrel
    have y0 := bX.cell 0
    have y1 := bX.cell 1
    have y2 := bX.cell 2
    have y3 := bX.cell 3
    have y4 := bX.cell 4
    have y5 := bX.cell 5
    have y6 := bX.cell 6
    have y7 := bX.cell 7
    have y8 := bX.cell 8
    have y9 := bX.cell 9
    have y10 := bX.cell 10
    simp only [List.getElem?_toArray, List.getElem?_cons_zero, List.getElem?_cons_succ] at y0 y1 y2 y3 y4 y5 y6 y7 y8 y9 y10
    have hn9 : (n : Int) + 2 ≤ 9223372036854775807 ∨ m = n ∨ m = n + 1 := by omega
    by_cases hlt : n + 1 < m
    · have hlt' : (n : Int) + 1 < m := by omega
      have hm9 : (n : Int) + 2 ≤ 9223372036854775807 := by omega
      have hm8 : (n : Int) + 1 ≤ 9223372036854775807 := by omega
      have HE := Lib.hid (case_more (V := V) (n := n) (by omega))
      rw [← HQ.out.2] at HE
      have HC := Lib.hid (HK.out n (by omega))
      have HC1 := Lib.hid (HK.out (n + 1) (by omega))
      have hpar : (n + 2) % 2 = 0 := by have := HQ.out.1; omega
      clear hn9
      revert HE HC HC1
      generalize V[n]'(by omega) = x
      generalize V[n + 1]'(by omega) = x1
      obtain ⟨⟨xk, xi, xs⟩, xf⟩ := x
      obtain ⟨⟨zk, zi, zs⟩, zf⟩ := x1
      intro HE HC HC1
      simp only at HE
      rw [show ((n + 1 : Nat) : Int) = (n : Int) + 1 by omega] at HC1
      by_cases hf : xf = 0
      · subst hf
        have HE1 := HE.out
        rw [if_neg (by simp)] at HE1
        clear HE
        by_cases hk : 1 < xk
        · rw [if_pos hk] at HE1
          have HE2 := Lib.hid HE1
          clear HE1
          go_wp2_with (go_at_call 32; (with_reducible refine (HC.out _ hb).mono ?_); rintro e w7 ⟨rfl, hb7⟩; have h7 := (hb.trans (hb7.mono hb.size)).alloc (by have := hb.size; have := hb7.size; omega) (.cells #[.int .i64 xk, .int .i64 xi, .string xs] 23); have bX7 := (bX.below hb7).alloc (.cells #[.int .i64 xk, .int .i64 xi, .string xs] 23); have bR7 := (bR.below hb7).alloc (.cells #[.int .i64 xk, .int .i64 xi, .string xs] 23); have bC7 := Blk.new w7 #[.int .i64 xk, .int .i64 xi, .string xs] 23; have r0 := bR7.cell 0; have r1 := bR7.cell 1; have r2 := bR7.cell 2; have f0 := bR7.frozen 0; have f1 := bR7.frozen 1; have f2 := bR7.frozen 2; simp only [List.getElem?_toArray, List.getElem?_cons_zero, List.getElem?_cons_succ] at r0 r1 r2; have y0 := bX7.cell 0; have y1 := bX7.cell 1; have y2 := bX7.cell 2; have y3 := bX7.cell 3; have y4 := bX7.cell 4; have y5 := bX7.cell 5; have y6 := bX7.cell 6; have y7 := bX7.cell 7; have y8 := bX7.cell 8; have y9 := bX7.cell 9; have y10 := bX7.cell 10; simp only [List.getElem?_toArray, List.getElem?_cons_zero, List.getElem?_cons_succ] at y0 y1 y2 y3 y4 y5 y6 y7 y8 y9 y10)
          refine bodyPost_ret ?_ rfl ⟨by rw [HE2.out], ?_⟩
          · simp [results, Tryd.results20, go_sem, r0, r1, r2, nulX, nullD]
          · exact (((h7.setCell (by simp; try omega) _).setCell (by simp; try omega) _).setCell (by simp; try omega) _)
        · rw [if_neg hk] at HE1
          have hk' : decide (1 < xk) = false := decide_eq_false hk
          clear hk
          by_cases hk1 : xk = 1
          · subst hk1
            by_cases hi1 : xi = 1
            · subst hi1
              rw [if_pos ⟨rfl, rfl⟩] at HE1
              have HE2 := Lib.hid HE1
              clear HE1 hk'
              have hz := hb.size
              go_wp2_with (first
                | (go_at_call 32; (with_reducible refine (HC.out _ hb).mono ?_); rintro e w7 ⟨rfl, hb7⟩; have h7 := (hb.trans (hb7.mono hb.size)).alloc (by have := hb.size; have := hb7.size; omega) (.cells #[.int .i64 1, .int .i64 1, .string xs] 23); have bX7 := (bX.below hb7).alloc (.cells #[.int .i64 1, .int .i64 1, .string xs] 23); have bR7 := (bR.below hb7).alloc (.cells #[.int .i64 1, .int .i64 1, .string xs] 23); have bC7 := Blk.new w7 #[.int .i64 1, .int .i64 1, .string xs] 23; have r0 := bR7.cell 0; have r1 := bR7.cell 1; have r2 := bR7.cell 2; have f0 := bR7.frozen 0; have f1 := bR7.frozen 1; have f2 := bR7.frozen 2; simp only [List.getElem?_toArray, List.getElem?_cons_zero, List.getElem?_cons_succ] at r0 r1 r2; have y0 := bX7.cell 0; have y1 := bX7.cell 1; have y2 := bX7.cell 2; have y3 := bX7.cell 3; have y4 := bX7.cell 4; have y5 := bX7.cell 5; have y6 := bX7.cell 6; have y7 := bX7.cell 7; have y8 := bX7.cell 8; have y9 := bX7.cell 9; have y10 := bX7.cell 10; simp only [List.getElem?_toArray, List.getElem?_cons_zero, List.getElem?_cons_succ] at y0 y1 y2 y3 y4 y5 y6 y7 y8 y9 y10)
                | (go_at_call 32; (with_reducible refine (HC1.out _ h7).mono ?_); rintro e w9 ⟨rfl, hb9⟩; have h9 := h7.trans (hb9.mono h7.size); have bR9 := bR7.below hb9; clear r0 r1 r2 f0 f1 f2; have r0 := bR9.cell 0; have r1 := bR9.cell 1; have r2 := bR9.cell 2; have f0 := bR9.frozen 0; have f1 := bR9.frozen 1; have f2 := bR9.frozen 2; simp only [List.getElem?_toArray, List.getElem?_cons_zero, List.getElem?_cons_succ] at r0 r1 r2))
              refine bodyPost_ret ?_ rfl ⟨by rw [HE2.out], ?_⟩
              · simp [results, Tryd.results20, go_sem, r0, r1, r2]
              · exact (((h9.setCell (by simp; try omega) _).setCell (by simp; try omega) _).setCell (by simp; try omega) _)
            · rw [if_neg (fun h => hi1 h.2)] at HE1
              have hi' : (xi == 1) = false := beq_eq_false_iff_ne.2 hi1
              have HE2 := Lib.hid HE1
              clear HE1 hi1 hk'
              go_wp2_with (go_at_call 32; (with_reducible refine (HC.out _ hb).mono ?_); rintro e w7 ⟨rfl, hb7⟩; have h7 := (hb.trans (hb7.mono hb.size)).alloc (by have := hb.size; have := hb7.size; omega) (.cells #[.int .i64 1, .int .i64 xi, .string xs] 23); have bX7 := (bX.below hb7).alloc (.cells #[.int .i64 1, .int .i64 xi, .string xs] 23); have bR7 := (bR.below hb7).alloc (.cells #[.int .i64 1, .int .i64 xi, .string xs] 23); have bC7 := Blk.new w7 #[.int .i64 1, .int .i64 xi, .string xs] 23; have r0 := bR7.cell 0; have r1 := bR7.cell 1; have r2 := bR7.cell 2; have f0 := bR7.frozen 0; have f1 := bR7.frozen 1; have f2 := bR7.frozen 2; simp only [List.getElem?_toArray, List.getElem?_cons_zero, List.getElem?_cons_succ] at r0 r1 r2; have y0 := bX7.cell 0; have y1 := bX7.cell 1; have y2 := bX7.cell 2; have y3 := bX7.cell 3; have y4 := bX7.cell 4; have y5 := bX7.cell 5; have y6 := bX7.cell 6; have y7 := bX7.cell 7; have y8 := bX7.cell 8; have y9 := bX7.cell 9; have y10 := bX7.cell 10; simp only [List.getElem?_toArray, List.getElem?_cons_zero, List.getElem?_cons_succ] at y0 y1 y2 y3 y4 y5 y6 y7 y8 y9 y10; have c0 := bC7.cell 0; have c1 := bC7.cell 1; simp only [List.getElem?_toArray, List.getElem?_cons_zero, List.getElem?_cons_succ] at c0 c1)
              refine ⟨⟨n + 2, by go_num, by omega, ⟨hpar, HE2.out⟩, h7, bX7, bR7⟩, ?_⟩
              simp [intOf]
              go_num
          · rw [if_neg (fun h => hk1 h.1)] at HE1
            have hk1' : (xk == 1) = false := beq_eq_false_iff_ne.2 hk1
            have HE2 := Lib.hid HE1
            clear HE1 hk1
            go_wp2_with (go_at_call 32; (with_reducible refine (HC.out _ hb).mono ?_); rintro e w7 ⟨rfl, hb7⟩; have h7 := (hb.trans (hb7.mono hb.size)).alloc (by have := hb.size; have := hb7.size; omega) (.cells #[.int .i64 xk, .int .i64 xi, .string xs] 23); have bX7 := (bX.below hb7).alloc (.cells #[.int .i64 xk, .int .i64 xi, .string xs] 23); have bR7 := (bR.below hb7).alloc (.cells #[.int .i64 xk, .int .i64 xi, .string xs] 23); have bC7 := Blk.new w7 #[.int .i64 xk, .int .i64 xi, .string xs] 23; have r0 := bR7.cell 0; have r1 := bR7.cell 1; have r2 := bR7.cell 2; have f0 := bR7.frozen 0; have f1 := bR7.frozen 1; have f2 := bR7.frozen 2; simp only [List.getElem?_toArray, List.getElem?_cons_zero, List.getElem?_cons_succ] at r0 r1 r2; have y0 := bX7.cell 0; have y1 := bX7.cell 1; have y2 := bX7.cell 2; have y3 := bX7.cell 3; have y4 := bX7.cell 4; have y5 := bX7.cell 5; have y6 := bX7.cell 6; have y7 := bX7.cell 7; have y8 := bX7.cell 8; have y9 := bX7.cell 9; have y10 := bX7.cell 10; simp only [List.getElem?_toArray, List.getElem?_cons_zero, List.getElem?_cons_succ] at y0 y1 y2 y3 y4 y5 y6 y7 y8 y9 y10; have c0 := bC7.cell 0; have c1 := bC7.cell 1; simp only [List.getElem?_toArray, List.getElem?_cons_zero, List.getElem?_cons_succ] at c0 c1)
            refine ⟨⟨n + 2, by go_num, by omega, ⟨hpar, HE2.out⟩, h7, bX7, bR7⟩, ?_⟩
            simp [intOf]
            go_num
      · have HE1 := HE.out
        rw [if_pos hf] at HE1
        have HE2 := Lib.hid HE1
        have hf' : (xf != 0) = true := by simpa using hf
        clear HE1 HE hf
        go_wp2_with (go_at_call 32; (with_reducible refine (HC.out _ hb).mono ?_); rintro e w7 ⟨rfl, hb7⟩; have h7 := (hb.trans (hb7.mono hb.size)).alloc (by have := hb.size; have := hb7.size; omega) (.cells #[.int .i64 xk, .int .i64 xi, .string xs] 23); have bX7 := (bX.below hb7).alloc (.cells #[.int .i64 xk, .int .i64 xi, .string xs] 23); have bR7 := (bR.below hb7).alloc (.cells #[.int .i64 xk, .int .i64 xi, .string xs] 23); have bC7 := Blk.new w7 #[.int .i64 xk, .int .i64 xi, .string xs] 23; have r0 := bR7.cell 0; have r1 := bR7.cell 1; have r2 := bR7.cell 2; have f0 := bR7.frozen 0; have f1 := bR7.frozen 1; have f2 := bR7.frozen 2; simp only [List.getElem?_toArray, List.getElem?_cons_zero, List.getElem?_cons_succ] at r0 r1 r2; have y0 := bX7.cell 0; have y1 := bX7.cell 1; have y2 := bX7.cell 2; have y3 := bX7.cell 3; have y4 := bX7.cell 4; have y5 := bX7.cell 5; have y6 := bX7.cell 6; have y7 := bX7.cell 7; have y8 := bX7.cell 8; have y9 := bX7.cell 9; have y10 := bX7.cell 10; simp only [List.getElem?_toArray, List.getElem?_cons_zero, List.getElem?_cons_succ] at y0 y1 y2 y3 y4 y5 y6 y7 y8 y9 y10)
        refine bodyPost_ret ?_ rfl ⟨by rw [HE2.out], ?_⟩
        · simp [results, Tryd.results20, go_sem, r0, r1, r2, nulX, nullD]
        · exact (((h7.setCell (by simp; try omega) _).setCell (by simp; try omega) _).setCell (by simp; try omega) _)
    · have hlt' : ¬ (n : Int) + 1 < m := by omega
      have hd : decide ((n : Int) + 1 < m) = false := decide_eq_false hlt'
      have hm8 : (n : Int) + 1 ≤ 9223372036854775807 := by have := HQ.out.1; omega
      have r0 := bR.cell 0
      have r1 := bR.cell 1
      have r2 := bR.cell 2
      have f0 := bR.frozen 0
      have f1 := bR.frozen 1
      have f2 := bR.frozen 2
      simp only [List.getElem?_toArray, List.getElem?_cons_zero, List.getElem?_cons_succ] at r0 r1 r2
      by_cases h1 : m = n + 1
      · have HE := Lib.hid (case_last (V := V) (n := n) (by omega) (by omega))
        rw [← HQ.out.2] at HE
        have HC := Lib.hid (HK.out n (by omega))
        have hodd : (m : Int).tmod 2 = 1 := by
          have := HQ.out.1
          rw [Int.tmod_eq_emod_of_nonneg (by omega)]
          omega
        have hsub : (n : Int) = (m : Int) - 1 := by omega
        have hs0 : -9223372036854775808 ≤ (m : Int) - 1 := by omega
        have hs1 : (m : Int) - 1 ≤ 9223372036854775807 := by omega
        rw [hsub] at HC
        clear hn9
        revert HE HC
        generalize V[n]'(by omega) = x
        obtain ⟨⟨xk, xi, xs⟩, xf⟩ := x
        intro HE HC
        clear hlt' hsub hlt h1
        go_wp2_with (go_at_call 32; (with_reducible refine (HC.out _ hb).mono ?_); rintro e w9 ⟨rfl, hb9⟩; have h9 := hb.trans (hb9.mono hb.size); have bR9 := bR.below hb9; clear r0 r1 r2 f0 f1 f2; have r0 := bR9.cell 0; have r1 := bR9.cell 1; have r2 := bR9.cell 2; have f0 := bR9.frozen 0; have f1 := bR9.frozen 1; have f2 := bR9.frozen 2; simp only [List.getElem?_toArray, List.getElem?_cons_zero, List.getElem?_cons_succ] at r0 r1 r2)
        refine bodyPost_ret ?_ rfl ⟨by rw [HE.out], ?_⟩
        · simp [results, Tryd.results20, go_sem, r0, r1, r2]
        · exact (((h9.setCell (by simp; try omega) _).setCell (by simp; try omega) _).setCell (by simp; try omega) _)
      · have HE := Lib.hid (case_none (V := V) (n := n) (by omega))
        rw [← HQ.out.2] at HE
        have hodd : (m : Int).tmod 2 = 0 := by
          have := HQ.out.1
          rw [Int.tmod_eq_emod_of_nonneg (by omega)]
          omega
        clear hn9 hlt' hlt h1
        go_wp2_with fail
        refine bodyPost_ret ?_ rfl ⟨by rw [HE.out], ?_⟩
        · simp [results, Tryd.results20, go_sem, r0, r1, r2, nulX, nullD]
        · exact (((hb.setCell (by simp; try omega) _).setCell (by simp; try omega) _).setCell (by simp; try omega) _)


end Go.Proofs.YtbjcebnahllnjaaDoor

namespace Go.Proofs.YtbjcebnahllnjaaDoor
open Go.RowKit

theorem Blk.upto {w w' : World} {b base : Nat} {cs : Array Value} {t : TypeId} (h : Blk w b cs t) (hb : Below base w w') (hl : b < base) : Blk w' b cs t := by
  unfold Blk at *; rw [hb.block b hl]; exact h
theorem setX_13 (d : Dat) : setX 13 d = decide (d.k = 1 ∧ d.i = 0 ∧ d.s = noText) := by simp [setX]
theorem setX_14 (d : Dat) : setX 14 d = decide (d.k = 1 ∧ d.i = 1 ∧ d.s = noText) := by simp [setX]
theorem setX_other {op : Int} (d : Dat) (h13 : op ≠ 13) (h14 : op ≠ 14) : setX op d = false := by simp [setX, h13, h14]
abbrev OwnD (w : World) (base : Nat) (v : Value) (L : List Dat) : Prop := OwnG encDat 3 23 w base v L
theorem infoDat : (Tryd.prog.info? 23).map (fun i => (i.zero, i.size, i.bytes)) = some (some (.agg #[.int .i64 0, .int .i64 0, .string noText]), 3, 32) := by kernel_rfl
theorem valD_one (w : World) (b : Nat) (k i : Int) (s : ByteArray) (h : b = w.heap.size) : ValG encDat 3 (w.alloc (.cells #[.int .i64 k, .int .i64 i, .string s] 23)) (.slice (some ⟨b, 0, none⟩) 1 1) [⟨k, i, s⟩] := by
  subst h
  have hb := Blk.new w #[.int .i64 k, .int .i64 i, .string s] 23
  refine .inr ⟨w.heap.size, 0, 1, rfl, by simp [maxLen], by simp, ?_, Nat.le_refl _⟩
  intro j z hj r u hr
  match j, hj with
  | 0, hj =>
    simp only [List.getElem?_cons_zero, Option.some.injEq] at hj
    subst hj
    have h3 : r < 3 := by have := (List.getElem?_eq_some_iff.mp hr).1; simpa [encDat] using this
    rw [show 0 + 0 * 3 + r = r by omega, hb.cell]
    match r, h3 with
    | 0, _ => simpa [encDat] using hr
    | 1, _ => simpa [encDat] using hr
    | 2, _ => simpa [encDat] using hr
  | j + 1, hj => simp at hj
theorem one_dat (d : Dat) : ∀ x ∈ [d], ∀ u ∈ encDat x, u.oneCell' = true := by
  intro x hx u hu
  rw [List.mem_singleton] at hx
  subst hx
  simp only [encDat, List.mem_cons, List.not_mem_nil, or_false] at hu
  rcases hu with rfl | rfl | rfl <;> rfl
theorem refBool_f (w : World) : Calls Tryd.prog 33 #[.bool false] w fun e w' => e = .returned (.agg #[.int .i64 1, .int .i64 0, .string noText]) ∧ Below w.heap.size w w' := refBool_any false w
theorem refBool_t (w : World) : Calls Tryd.prog 33 #[.bool true] w fun e w' => e = .returned (.agg #[.int .i64 1, .int .i64 1, .string noText]) ∧ Below w.heap.size w w' := refBool_any true w
theorem take_fst {V : List Va} {n : Nat} (h : n < V.length) : (V.take (n + 1)).map Prod.fst = (V.take n).map Prod.fst ++ [V[n].1] := by
  rw [List.take_add_one, List.getElem?_eq_getElem h, List.map_append, Option.toList_some, List.map_cons, List.map_nil]

set_option maxRecDepth 100000 in
set_option maxHeartbeats 16000000 in
theorem exCall_oth (k t : Int) (nl : Bool) (lit : Dat) (lv col op : Int) (A sA : Option Addr) (m c sn sc : Nat) (vE vS : Value) (hvE : SliceV vE) (hvS : SliceV vS) (V : List Va) (hV : V.length = m) (hm : m ≤ 1048576) (hI : ∀ x ∈ V, InI x.1) (h16 : op ≠ 16) (w : World)
    (HK : Hid (∀ (n : Nat) (hn : n < V.length) (w' : World), Below w.heap.size w w' → Calls Tryd.prog 32 #[.agg #[.int .i64 k, .int .i64 t, .bool nl, .int .i64 lit.k, .int .i64 lit.i, .string lit.s, .int .i64 lv, .int .i64 col, .int .i64 op, .slice A m c, .slice sA sn sc], .int .i64 n, vE, vS] w' (ValPost V[n] w'))) :
    Calls Tryd.prog 20 #[.agg #[.int .i64 k, .int .i64 t, .bool nl, .int .i64 lit.k, .int .i64 lit.i, .string lit.s, .int .i64 lv, .int .i64 col, .int .i64 op, .slice A m c, .slice sA sn sc], vE, vS] w (ValPost (othX op 0 [] V) w) := by
  obtain ⟨Ae, ne, ce, rfl⟩ := hvE
  obtain ⟨As, ns, cs, rfl⟩ := hvS
  have HV := Lib.hid hI
  clear hI
  obtain ⟨i0, hi, hz0, hz1, hz2⟩ := info_parts infoDat
  have HI := Lib.hid hi
  have HZ0 := Lib.hid hz0
  have HZ1 := Lib.hid hz1
  have HZ2 := Lib.hid hz2
  clear hi hz0 hz1 hz2
  have hb1 := (Below.refl w.heap.size w).alloc (Nat.le_refl _) (.cells #[.int .i64 k, .int .i64 t, .bool nl, .int .i64 lit.k, .int .i64 lit.i, .string lit.s, .int .i64 lv, .int .i64 col, .int .i64 op, .slice A m c, .slice sA sn sc] 27)
  have hb2 := hb1.alloc hb1.size (.cells #[.int .i64 0, .int .i64 0, .string noText] 23)
  have bX := (Blk.new w #[.int .i64 k, .int .i64 t, .bool nl, .int .i64 lit.k, .int .i64 lit.i, .string lit.s, .int .i64 lv, .int .i64 col, .int .i64 op, .slice A m c, .slice sA sn sc] 27).alloc (.cells #[.int .i64 0, .int .i64 0, .string noText] 23)
  have bR := Blk.new (w.alloc (.cells #[.int .i64 k, .int .i64 t, .bool nl, .int .i64 lit.k, .int .i64 lit.i, .string lit.s, .int .i64 lv, .int .i64 col, .int .i64 op, .slice A m c, .slice sA sn sc] 27)) #[.int .i64 0, .int .i64 0, .string noText] 23
  rw [show (w.alloc (.cells #[.int .i64 k, .int .i64 t, .bool nl, .int .i64 lit.k, .int .i64 lit.i, .string lit.s, .int .i64 lv, .int .i64 col, .int .i64 op, .slice A m c, .slice sA sn sc] 27)).heap.size = w.heap.size + 1 by simp] at bR
  have bX3 := bX.alloc (.cells #[] 23)
  have bR3 := bR.alloc (.cells #[] 23)
  have hb3 := hb2.alloc hb2.size (.cells #[] 23)
  have e16 : (op == 16) = false := beq_eq_false_iff_ne.2 h16
  clear bX bR
  go_enter Tryd.func20, Tryd.ntmps20
  go_wp2_with fail
  go_loopw [12, 13] (fun l i wr => ∃ n : Nat, i = .int .i64 n ∧ n ≤ m ∧ Hid (othX op 0 [] V = othX op n ((V.take n).map Prod.fst) (V.drop n)) ∧ Below w.heap.size w wr ∧ Blk wr w.heap.size #[.int .i64 k, .int .i64 t, .bool nl, .int .i64 lit.k, .int .i64 lit.i, .string lit.s, .int .i64 lv, .int .i64 col, .int .i64 op, .slice A m c, .slice sA sn sc] 27 ∧ Blk wr (w.heap.size + 1) #[.int .i64 0, .int .i64 0, .string noText] 23 ∧ w.heap.size + 2 ≤ wr.heap.size ∧ Hid (OwnD wr (w.heap.size + 2) l ((V.take n).map Prod.fst))) (fun _ i _ => m - (intOf i).toNat)
  case atStart => exact ⟨0, rfl, Nat.zero_le _, rfl, hb3, bX3, bR3, by simp, by have := OwnG.lit0 (enc := encDat) (k := 3) 23 ((w.alloc (.cells #[.int .i64 k, .int .i64 t, .bool nl, .int .i64 lit.k, .int .i64 lit.i, .string lit.s, .int .i64 lv, .int .i64 col, .int .i64 op, .slice A m c, .slice sA sn sc] 27)).alloc (.cells #[.int .i64 0, .int .i64 0, .string noText] 23)) (w.heap.size + 2) (by simp); unfold Hid; simpa using this⟩
  case round =>
    clear hb1 hb2 hb3 bX3 bR3
    obtain ⟨n, rfl, hn, HQ, hb, bX, bR, hz, HO⟩ := hrel
    have y0 := bX.cell 0
    have y1 := bX.cell 1
    have y2 := bX.cell 2
    have y3 := bX.cell 3
    have y4 := bX.cell 4
    have y5 := bX.cell 5
    have y6 := bX.cell 6
    have y7 := bX.cell 7
    have y8 := bX.cell 8
    have y9 := bX.cell 9
    have y10 := bX.cell 10
    simp only [List.getElem?_toArray, List.getElem?_cons_zero, List.getElem?_cons_succ] at y0 y1 y2 y3 y4 y5 y6 y7 y8 y9 y10
    by_cases hlt : n < m
    · have hlt' : (n : Int) < m := by omega
      have hm8 : (n : Int) + 1 ≤ 9223372036854775807 := by omega
      have HE := Lib.hid (oth_more (op := op) (V := V) (n := n) (acc := (V.take n).map Prod.fst) (by omega))
      rw [← HQ.out] at HE
      have HC := Lib.hid (HK.out n (by omega))
      have HT := Lib.hid (take_fst (V := V) (n := n) (by omega))
      rw [← HT.out] at HE
      revert HE HC HT
      generalize V[n]'(by omega) = x
      obtain ⟨⟨xk, xi, xs⟩, xf⟩ := x
      intro HE HC HT
      simp only at HE HT
      have HE1 := HE.out
      clear HE
      by_cases hf : xf = 0
      · subst hf
        rw [if_neg (by simp)] at HE1
        by_cases h17 : op = 17
        · subst h17
          clear h16 e16
          by_cases hk : xk = 0
          · subst hk
            rw [if_neg (fun h => h.2 rfl), setX_other _ (by decide) (by decide), if_neg (fun h => absurd h.1 (by decide))] at HE1
            have HE2 := Lib.hid HE1
            clear HE1
            go_wp2_with (go_at_call 32; (with_reducible refine (HC.out _ hb).mono ?_); rintro e w7 ⟨rfl, hb7⟩; have h7 := (hb.trans (hb7.mono hb.size)).alloc (by have := hb.size; have := hb7.size; omega) (.cells #[.int .i64 0, .int .i64 xi, .string xs] 23); have hz7 := Nat.le_trans hz hb7.size; have HO7 := Lib.hid ((HO.out.below hb7).alloc (.cells #[.int .i64 0, .int .i64 xi, .string xs] 23)); have bX7 := (bX.below hb7).alloc (.cells #[.int .i64 0, .int .i64 xi, .string xs] 23); have bR7 := (bR.below hb7).alloc (.cells #[.int .i64 0, .int .i64 xi, .string xs] 23); have bC7 := Blk.new w7 #[.int .i64 0, .int .i64 xi, .string xs] 23; have r0 := bR7.cell 0; have r1 := bR7.cell 1; have r2 := bR7.cell 2; have f0 := bR7.frozen 0; have f1 := bR7.frozen 1; have f2 := bR7.frozen 2; simp only [List.getElem?_toArray, List.getElem?_cons_zero, List.getElem?_cons_succ] at r0 r1 r2; have y8 := bX7.cell 8; have c0 := bC7.cell 0; have c1 := bC7.cell 1; have c2 := bC7.cell 2; simp only [List.getElem?_toArray, List.getElem?_cons_zero, List.getElem?_cons_succ] at y8 c0 c1 c2; have k0 := fun n : Kept (w7.alloc (.cells #[.int .i64 0, .int .i64 xi, .string xs] 23)) => n.cell y8; have k1 := fun n : Kept (w7.alloc (.cells #[.int .i64 0, .int .i64 xi, .string xs] 23)) => n.cell c0; have k2 := fun n : Kept (w7.alloc (.cells #[.int .i64 0, .int .i64 xi, .string xs] 23)) => n.cell c1; have k3 := fun n : Kept (w7.alloc (.cells #[.int .i64 0, .int .i64 xi, .string xs] 23)) => n.cell c2)
            refine wp_region_kept (by kernel_rfl) (by kernel_rfl) ?_
            repeat (go_big_quiet_step (fail))
            refine wpQuiet_nil ?_
            intro wk hw'
            obtain ⟨⟨wq, hwq⟩, hw''⟩ := hw'
            simp only at hw''
            subst hw''
            clear k0 k1 k2 k3 r0 r1 r2 f0 f1 f2 y8 c0 c1 c2
            have h9 := h7.trans (hwq.mono h7.size)
            have bX9 := bX7.below hwq
            have bR9 := bR7.below hwq
            have bC9 := bC7.below hwq
            have HO9 := Lib.hid (HO7.out.below hwq)
            have hz9 : w.heap.size + 2 ≤ wk.heap.size := Nat.le_trans (by simp; omega) hwq.size
            have c0 := bC9.cell 0
            have c1 := bC9.cell 1
            have c2 := bC9.cell 2
            have r0 := bR9.cell 0
            have r1 := bR9.cell 1
            have r2 := bR9.cell 2
            have f0 := bR9.frozen 0
            have f1 := bR9.frozen 1
            have f2 := bR9.frozen 2
            simp only [List.getElem?_toArray, List.getElem?_cons_zero, List.getElem?_cons_succ] at r0 r1 r2
            simp only [List.getElem?_toArray, List.getElem?_cons_zero, List.getElem?_cons_succ] at c0 c1 c2
            have HOa := Lib.hid (HO9.out.alloc (.cells #[.int .i64 0, .int .i64 xi, .string xs] 23))
            have HVa := Lib.hid (valD_one wk wk.heap.size 0 xi xs rfl)
            have hza : w.heap.size + 2 ≤ (wk.alloc (.cells #[.int .i64 0, .int .i64 xi, .string xs] 23)).heap.size := by simp; omega
            have h10 := h9.alloc (by omega) (.cells #[.int .i64 0, .int .i64 xi, .string xs] 23)
            have bX10 := bX9.alloc (.cells #[.int .i64 0, .int .i64 xi, .string xs] 23)
            have bR10 := bR9.alloc (.cells #[.int .i64 0, .int .i64 xi, .string xs] 23)
            have hlen : ((V.take n).map Prod.fst).length ≤ 1048576 := by rw [List.length_map, List.length_take]; omega
            go_wp2_with (at_builtin; refine wpList_append_g hkDat (by decide) 29 23 i0 _ 32 Tryd.underlying29 HI.out HZ0.out HZ1.out HZ2.out rfl _ rfl _ _ rfl (w.heap.size + 2) _ _ ((V.take n).map Prod.fst) [⟨0, xi, xs⟩] rfl rfl HOa.out HVa.out (one_dat _) (by unfold maxLen; simp only [List.length_cons, List.length_nil]; omega) (by simp only [List.length_cons, List.length_nil]; omega) hza ?_; intro v8 w8 ho8 hg8)
            have hgr := OwnG.grown HOa.out hza hg8
            refine ⟨⟨n + 1, by go_num, by omega, HE2.out, h10.trans (hgr.mono (by omega)), bX10.upto hgr (by omega), bR10.upto hgr (by omega), Nat.le_trans hza hgr.size, by rw [HT.out]; exact Lib.hid ho8⟩, ?_⟩
            simp only [intOf]
            omega
          · rw [if_pos ⟨rfl, hk⟩] at HE1
            have hk' : (xk != 0) = true := by simpa using hk
            have HE2 := Lib.hid HE1
            clear HE1 hk HT
            go_wp2_with (go_at_call 32; (with_reducible refine (HC.out _ hb).mono ?_); rintro e w7 ⟨rfl, hb7⟩; have h7 := (hb.trans (hb7.mono hb.size)).alloc (by have := hb.size; have := hb7.size; omega) (.cells #[.int .i64 xk, .int .i64 xi, .string xs] 23); have hz7 := Nat.le_trans hz hb7.size; have HO7 := Lib.hid ((HO.out.below hb7).alloc (.cells #[.int .i64 xk, .int .i64 xi, .string xs] 23)); have bX7 := (bX.below hb7).alloc (.cells #[.int .i64 xk, .int .i64 xi, .string xs] 23); have bR7 := (bR.below hb7).alloc (.cells #[.int .i64 xk, .int .i64 xi, .string xs] 23); have bC7 := Blk.new w7 #[.int .i64 xk, .int .i64 xi, .string xs] 23; have r0 := bR7.cell 0; have r1 := bR7.cell 1; have r2 := bR7.cell 2; have f0 := bR7.frozen 0; have f1 := bR7.frozen 1; have f2 := bR7.frozen 2; simp only [List.getElem?_toArray, List.getElem?_cons_zero, List.getElem?_cons_succ] at r0 r1 r2; have y8 := bX7.cell 8; have c0 := bC7.cell 0; have c1 := bC7.cell 1; have c2 := bC7.cell 2; simp only [List.getElem?_toArray, List.getElem?_cons_zero, List.getElem?_cons_succ] at y8 c0 c1 c2)
            refine bodyPost_ret ?_ rfl ⟨by rw [HE2.out], ?_⟩
            · simp [results, Tryd.results20, go_sem, r0, r1, r2]
            · exact (((h7.setCell (by simp; try omega) _).setCell (by simp; try omega) _).setCell (by simp; try omega) _)
        · have e17 : (op == 17) = false := beq_eq_false_iff_ne.2 h17
          by_cases h13 : op = 13
          · subst h13
            clear e17 e16 h17 h16
            rw [if_neg (fun h => absurd h.1 (by decide)), setX_13] at HE1
            have hE := fun w => run_eq_datum xk xi xs 1 0 noText w
            by_cases hq : xk = 1 ∧ xi = 0 ∧ xs = noText
            · have hdq := decide_eq_true hq
              simp only [hdq] at hE
              by_cases hn0 : n = 0
              · rw [if_pos ⟨hdq, hn0⟩] at HE1
                have HE2 := Lib.hid HE1
                have hn' : ((n : Int) == 0) = true := by rw [hn0]; rfl
                clear HE1 hdq hq hn0 HT
                go_wp2_with (go_at_call 32; (with_reducible refine (HC.out _ hb).mono ?_); rintro e w7 ⟨rfl, hb7⟩; have h7 := (hb.trans (hb7.mono hb.size)).alloc (by have := hb.size; have := hb7.size; omega) (.cells #[.int .i64 xk, .int .i64 xi, .string xs] 23); have hz7 := Nat.le_trans hz hb7.size; have HO7 := Lib.hid ((HO.out.below hb7).alloc (.cells #[.int .i64 xk, .int .i64 xi, .string xs] 23)); have bX7 := (bX.below hb7).alloc (.cells #[.int .i64 xk, .int .i64 xi, .string xs] 23); have bR7 := (bR.below hb7).alloc (.cells #[.int .i64 xk, .int .i64 xi, .string xs] 23); have bC7 := Blk.new w7 #[.int .i64 xk, .int .i64 xi, .string xs] 23; have r0 := bR7.cell 0; have r1 := bR7.cell 1; have r2 := bR7.cell 2; have f0 := bR7.frozen 0; have f1 := bR7.frozen 1; have f2 := bR7.frozen 2; simp only [List.getElem?_toArray, List.getElem?_cons_zero, List.getElem?_cons_succ] at r0 r1 r2; have y8 := bX7.cell 8; have c0 := bC7.cell 0; have c1 := bC7.cell 1; have c2 := bC7.cell 2; simp only [List.getElem?_toArray, List.getElem?_cons_zero, List.getElem?_cons_succ] at y8 c0 c1 c2; have k0 := fun n : Kept (w7.alloc (.cells #[.int .i64 xk, .int .i64 xi, .string xs] 23)) => n.cell y8; have k1 := fun n : Kept (w7.alloc (.cells #[.int .i64 xk, .int .i64 xi, .string xs] 23)) => n.cell c0; have k2 := fun n : Kept (w7.alloc (.cells #[.int .i64 xk, .int .i64 xi, .string xs] 23)) => n.cell c1; have k3 := fun n : Kept (w7.alloc (.cells #[.int .i64 xk, .int .i64 xi, .string xs] 23)) => n.cell c2)
                refine wp_region_kept (by kernel_rfl) (by kernel_rfl) ?_
                repeat (go_big_quiet_step ((go_at_call 33; (with_reducible exact Calls.kept (refBool_f _)))))
                refine wpQuiet_nil ?_
                intro wk hw'
                obtain ⟨⟨wq, hwq⟩, hw''⟩ := hw'
                simp only at hw''
                subst hw''
                clear k0 k1 k2 k3 r0 r1 r2 f0 f1 f2 y8 c0 c1 c2
                have h9 := h7.trans (hwq.mono h7.size)
                have bX9 := bX7.below hwq
                have bR9 := bR7.below hwq
                have bC9 := bC7.below hwq
                have HO9 := Lib.hid (HO7.out.below hwq)
                have hz9 : w.heap.size + 2 ≤ wk.heap.size := Nat.le_trans (by simp; omega) hwq.size
                have c0 := bC9.cell 0
                have c1 := bC9.cell 1
                have c2 := bC9.cell 2
                have r0 := bR9.cell 0
                have r1 := bR9.cell 1
                have r2 := bR9.cell 2
                have f0 := bR9.frozen 0
                have f1 := bR9.frozen 1
                have f2 := bR9.frozen 2
                simp only [List.getElem?_toArray, List.getElem?_cons_zero, List.getElem?_cons_succ] at r0 r1 r2
                simp only [List.getElem?_toArray, List.getElem?_cons_zero, List.getElem?_cons_succ] at c0 c1 c2
                go_wp2_with fail
                refine bodyPost_ret ?_ rfl ⟨by rw [HE2.out], ?_⟩
                · simp [results, Tryd.results20, go_sem, r0, r1, r2]
                · exact (((h9.setCell (by simp; try omega) _).setCell (by simp; try omega) _).setCell (by simp; try omega) _)
              · rw [if_neg (fun h => hn0 h.2)] at HE1
                have HE2 := Lib.hid HE1
                have hn' : ((n : Int) == 0) = false := beq_eq_false_iff_ne.2 (by omega)
                clear HE1 hdq hq hn0
                go_wp2_with (go_at_call 32; (with_reducible refine (HC.out _ hb).mono ?_); rintro e w7 ⟨rfl, hb7⟩; have h7 := (hb.trans (hb7.mono hb.size)).alloc (by have := hb.size; have := hb7.size; omega) (.cells #[.int .i64 xk, .int .i64 xi, .string xs] 23); have hz7 := Nat.le_trans hz hb7.size; have HO7 := Lib.hid ((HO.out.below hb7).alloc (.cells #[.int .i64 xk, .int .i64 xi, .string xs] 23)); have bX7 := (bX.below hb7).alloc (.cells #[.int .i64 xk, .int .i64 xi, .string xs] 23); have bR7 := (bR.below hb7).alloc (.cells #[.int .i64 xk, .int .i64 xi, .string xs] 23); have bC7 := Blk.new w7 #[.int .i64 xk, .int .i64 xi, .string xs] 23; have r0 := bR7.cell 0; have r1 := bR7.cell 1; have r2 := bR7.cell 2; have f0 := bR7.frozen 0; have f1 := bR7.frozen 1; have f2 := bR7.frozen 2; simp only [List.getElem?_toArray, List.getElem?_cons_zero, List.getElem?_cons_succ] at r0 r1 r2; have y8 := bX7.cell 8; have c0 := bC7.cell 0; have c1 := bC7.cell 1; have c2 := bC7.cell 2; simp only [List.getElem?_toArray, List.getElem?_cons_zero, List.getElem?_cons_succ] at y8 c0 c1 c2; have k0 := fun n : Kept (w7.alloc (.cells #[.int .i64 xk, .int .i64 xi, .string xs] 23)) => n.cell y8; have k1 := fun n : Kept (w7.alloc (.cells #[.int .i64 xk, .int .i64 xi, .string xs] 23)) => n.cell c0; have k2 := fun n : Kept (w7.alloc (.cells #[.int .i64 xk, .int .i64 xi, .string xs] 23)) => n.cell c1; have k3 := fun n : Kept (w7.alloc (.cells #[.int .i64 xk, .int .i64 xi, .string xs] 23)) => n.cell c2)
                refine wp_region_kept (by kernel_rfl) (by kernel_rfl) ?_
                repeat (go_big_quiet_step ((go_at_call 33; (with_reducible exact Calls.kept (refBool_f _)))))
                refine wpQuiet_nil ?_
                intro wk hw'
                obtain ⟨⟨wq, hwq⟩, hw''⟩ := hw'
                simp only at hw''
                subst hw''
                clear k0 k1 k2 k3 r0 r1 r2 f0 f1 f2 y8 c0 c1 c2
                have h9 := h7.trans (hwq.mono h7.size)
                have bX9 := bX7.below hwq
                have bR9 := bR7.below hwq
                have bC9 := bC7.below hwq
                have HO9 := Lib.hid (HO7.out.below hwq)
                have hz9 : w.heap.size + 2 ≤ wk.heap.size := Nat.le_trans (by simp; omega) hwq.size
                have c0 := bC9.cell 0
                have c1 := bC9.cell 1
                have c2 := bC9.cell 2
                have r0 := bR9.cell 0
                have r1 := bR9.cell 1
                have r2 := bR9.cell 2
                have f0 := bR9.frozen 0
                have f1 := bR9.frozen 1
                have f2 := bR9.frozen 2
                simp only [List.getElem?_toArray, List.getElem?_cons_zero, List.getElem?_cons_succ] at r0 r1 r2
                simp only [List.getElem?_toArray, List.getElem?_cons_zero, List.getElem?_cons_succ] at c0 c1 c2
                have HOa := Lib.hid (HO9.out.alloc (.cells #[.int .i64 xk, .int .i64 xi, .string xs] 23))
                have HVa := Lib.hid (valD_one wk wk.heap.size xk xi xs rfl)
                have hza : w.heap.size + 2 ≤ (wk.alloc (.cells #[.int .i64 xk, .int .i64 xi, .string xs] 23)).heap.size := by simp; omega
                have h10 := h9.alloc (by omega) (.cells #[.int .i64 xk, .int .i64 xi, .string xs] 23)
                have bX10 := bX9.alloc (.cells #[.int .i64 xk, .int .i64 xi, .string xs] 23)
                have bR10 := bR9.alloc (.cells #[.int .i64 xk, .int .i64 xi, .string xs] 23)
                have hlen : ((V.take n).map Prod.fst).length ≤ 1048576 := by rw [List.length_map, List.length_take]; omega
                go_wp2_with (at_builtin; refine wpList_append_g hkDat (by decide) 29 23 i0 _ 32 Tryd.underlying29 HI.out HZ0.out HZ1.out HZ2.out rfl _ rfl _ _ rfl (w.heap.size + 2) _ _ ((V.take n).map Prod.fst) [⟨xk, xi, xs⟩] rfl rfl HOa.out HVa.out (one_dat _) (by unfold maxLen; simp only [List.length_cons, List.length_nil]; omega) (by simp only [List.length_cons, List.length_nil]; omega) hza ?_; intro v8 w8 ho8 hg8)
                have hgr := OwnG.grown HOa.out hza hg8
                refine ⟨⟨n + 1, by go_num, by omega, HE2.out, h10.trans (hgr.mono (by omega)), bX10.upto hgr (by omega), bR10.upto hgr (by omega), Nat.le_trans hza hgr.size, by rw [HT.out]; exact Lib.hid ho8⟩, ?_⟩
                simp only [intOf]
                omega
            · have hdq := decide_eq_false hq
              simp only [hdq] at hE
              rw [if_neg (fun h => by rw [hdq] at h; exact absurd h.1 (by decide))] at HE1
              have HE2 := Lib.hid HE1
              clear HE1 hdq hq
              go_wp2_with (go_at_call 32; (with_reducible refine (HC.out _ hb).mono ?_); rintro e w7 ⟨rfl, hb7⟩; have h7 := (hb.trans (hb7.mono hb.size)).alloc (by have := hb.size; have := hb7.size; omega) (.cells #[.int .i64 xk, .int .i64 xi, .string xs] 23); have hz7 := Nat.le_trans hz hb7.size; have HO7 := Lib.hid ((HO.out.below hb7).alloc (.cells #[.int .i64 xk, .int .i64 xi, .string xs] 23)); have bX7 := (bX.below hb7).alloc (.cells #[.int .i64 xk, .int .i64 xi, .string xs] 23); have bR7 := (bR.below hb7).alloc (.cells #[.int .i64 xk, .int .i64 xi, .string xs] 23); have bC7 := Blk.new w7 #[.int .i64 xk, .int .i64 xi, .string xs] 23; have r0 := bR7.cell 0; have r1 := bR7.cell 1; have r2 := bR7.cell 2; have f0 := bR7.frozen 0; have f1 := bR7.frozen 1; have f2 := bR7.frozen 2; simp only [List.getElem?_toArray, List.getElem?_cons_zero, List.getElem?_cons_succ] at r0 r1 r2; have y8 := bX7.cell 8; have c0 := bC7.cell 0; have c1 := bC7.cell 1; have c2 := bC7.cell 2; simp only [List.getElem?_toArray, List.getElem?_cons_zero, List.getElem?_cons_succ] at y8 c0 c1 c2; have k0 := fun n : Kept (w7.alloc (.cells #[.int .i64 xk, .int .i64 xi, .string xs] 23)) => n.cell y8; have k1 := fun n : Kept (w7.alloc (.cells #[.int .i64 xk, .int .i64 xi, .string xs] 23)) => n.cell c0; have k2 := fun n : Kept (w7.alloc (.cells #[.int .i64 xk, .int .i64 xi, .string xs] 23)) => n.cell c1; have k3 := fun n : Kept (w7.alloc (.cells #[.int .i64 xk, .int .i64 xi, .string xs] 23)) => n.cell c2)
              refine wp_region_kept (by kernel_rfl) (by kernel_rfl) ?_
              repeat (go_big_quiet_step ((go_at_call 33; (with_reducible exact Calls.kept (refBool_f _)))))
              refine wpQuiet_nil ?_
              intro wk hw'
              obtain ⟨⟨wq, hwq⟩, hw''⟩ := hw'
              simp only at hw''
              subst hw''
              clear k0 k1 k2 k3 r0 r1 r2 f0 f1 f2 y8 c0 c1 c2
              have h9 := h7.trans (hwq.mono h7.size)
              have bX9 := bX7.below hwq
              have bR9 := bR7.below hwq
              have bC9 := bC7.below hwq
              have HO9 := Lib.hid (HO7.out.below hwq)
              have hz9 : w.heap.size + 2 ≤ wk.heap.size := Nat.le_trans (by simp; omega) hwq.size
              have c0 := bC9.cell 0
              have c1 := bC9.cell 1
              have c2 := bC9.cell 2
              have r0 := bR9.cell 0
              have r1 := bR9.cell 1
              have r2 := bR9.cell 2
              have f0 := bR9.frozen 0
              have f1 := bR9.frozen 1
              have f2 := bR9.frozen 2
              simp only [List.getElem?_toArray, List.getElem?_cons_zero, List.getElem?_cons_succ] at r0 r1 r2
              simp only [List.getElem?_toArray, List.getElem?_cons_zero, List.getElem?_cons_succ] at c0 c1 c2
              have HOa := Lib.hid (HO9.out.alloc (.cells #[.int .i64 xk, .int .i64 xi, .string xs] 23))
              have HVa := Lib.hid (valD_one wk wk.heap.size xk xi xs rfl)
              have hza : w.heap.size + 2 ≤ (wk.alloc (.cells #[.int .i64 xk, .int .i64 xi, .string xs] 23)).heap.size := by simp; omega
              have h10 := h9.alloc (by omega) (.cells #[.int .i64 xk, .int .i64 xi, .string xs] 23)
              have bX10 := bX9.alloc (.cells #[.int .i64 xk, .int .i64 xi, .string xs] 23)
              have bR10 := bR9.alloc (.cells #[.int .i64 xk, .int .i64 xi, .string xs] 23)
              have hlen : ((V.take n).map Prod.fst).length ≤ 1048576 := by rw [List.length_map, List.length_take]; omega
              go_wp2_with (at_builtin; refine wpList_append_g hkDat (by decide) 29 23 i0 _ 32 Tryd.underlying29 HI.out HZ0.out HZ1.out HZ2.out rfl _ rfl _ _ rfl (w.heap.size + 2) _ _ ((V.take n).map Prod.fst) [⟨xk, xi, xs⟩] rfl rfl HOa.out HVa.out (one_dat _) (by unfold maxLen; simp only [List.length_cons, List.length_nil]; omega) (by simp only [List.length_cons, List.length_nil]; omega) hza ?_; intro v8 w8 ho8 hg8)
              have hgr := OwnG.grown HOa.out hza hg8
              refine ⟨⟨n + 1, by go_num, by omega, HE2.out, h10.trans (hgr.mono (by omega)), bX10.upto hgr (by omega), bR10.upto hgr (by omega), Nat.le_trans hza hgr.size, by rw [HT.out]; exact Lib.hid ho8⟩, ?_⟩
              simp only [intOf]
              omega
          · by_cases h14 : op = 14
            · subst h14
              clear e17 e16 h17 h16 h13
              rw [if_neg (fun h => absurd h.1 (by decide)), setX_14] at HE1
              have hE := fun w => run_eq_datum xk xi xs 1 1 noText w
              by_cases hq : xk = 1 ∧ xi = 1 ∧ xs = noText
              · have hdq := decide_eq_true hq
                simp only [hdq] at hE
                by_cases hn0 : n = 0
                · rw [if_pos ⟨hdq, hn0⟩] at HE1
                  have HE2 := Lib.hid HE1
                  have hn' : ((n : Int) == 0) = true := by rw [hn0]; rfl
                  clear HE1 hdq hq hn0 HT
                  go_wp2_with (go_at_call 32; (with_reducible refine (HC.out _ hb).mono ?_); rintro e w7 ⟨rfl, hb7⟩; have h7 := (hb.trans (hb7.mono hb.size)).alloc (by have := hb.size; have := hb7.size; omega) (.cells #[.int .i64 xk, .int .i64 xi, .string xs] 23); have hz7 := Nat.le_trans hz hb7.size; have HO7 := Lib.hid ((HO.out.below hb7).alloc (.cells #[.int .i64 xk, .int .i64 xi, .string xs] 23)); have bX7 := (bX.below hb7).alloc (.cells #[.int .i64 xk, .int .i64 xi, .string xs] 23); have bR7 := (bR.below hb7).alloc (.cells #[.int .i64 xk, .int .i64 xi, .string xs] 23); have bC7 := Blk.new w7 #[.int .i64 xk, .int .i64 xi, .string xs] 23; have r0 := bR7.cell 0; have r1 := bR7.cell 1; have r2 := bR7.cell 2; have f0 := bR7.frozen 0; have f1 := bR7.frozen 1; have f2 := bR7.frozen 2; simp only [List.getElem?_toArray, List.getElem?_cons_zero, List.getElem?_cons_succ] at r0 r1 r2; have y8 := bX7.cell 8; have c0 := bC7.cell 0; have c1 := bC7.cell 1; have c2 := bC7.cell 2; simp only [List.getElem?_toArray, List.getElem?_cons_zero, List.getElem?_cons_succ] at y8 c0 c1 c2; have k0 := fun n : Kept (w7.alloc (.cells #[.int .i64 xk, .int .i64 xi, .string xs] 23)) => n.cell y8; have k1 := fun n : Kept (w7.alloc (.cells #[.int .i64 xk, .int .i64 xi, .string xs] 23)) => n.cell c0; have k2 := fun n : Kept (w7.alloc (.cells #[.int .i64 xk, .int .i64 xi, .string xs] 23)) => n.cell c1; have k3 := fun n : Kept (w7.alloc (.cells #[.int .i64 xk, .int .i64 xi, .string xs] 23)) => n.cell c2)
                  refine wp_region_kept (by kernel_rfl) (by kernel_rfl) ?_
                  repeat (go_big_quiet_step ((go_at_call 33; (with_reducible exact Calls.kept (refBool_t _)))))
                  refine wpQuiet_nil ?_
                  intro wk hw'
                  obtain ⟨⟨wq, hwq⟩, hw''⟩ := hw'
                  simp only at hw''
                  subst hw''
                  clear k0 k1 k2 k3 r0 r1 r2 f0 f1 f2 y8 c0 c1 c2
                  have h9 := h7.trans (hwq.mono h7.size)
                  have bX9 := bX7.below hwq
                  have bR9 := bR7.below hwq
                  have bC9 := bC7.below hwq
                  have HO9 := Lib.hid (HO7.out.below hwq)
                  have hz9 : w.heap.size + 2 ≤ wk.heap.size := Nat.le_trans (by simp; omega) hwq.size
                  have c0 := bC9.cell 0
                  have c1 := bC9.cell 1
                  have c2 := bC9.cell 2
                  have r0 := bR9.cell 0
                  have r1 := bR9.cell 1
                  have r2 := bR9.cell 2
                  have f0 := bR9.frozen 0
                  have f1 := bR9.frozen 1
                  have f2 := bR9.frozen 2
                  simp only [List.getElem?_toArray, List.getElem?_cons_zero, List.getElem?_cons_succ] at r0 r1 r2
                  simp only [List.getElem?_toArray, List.getElem?_cons_zero, List.getElem?_cons_succ] at c0 c1 c2
                  go_wp2_with fail
                  refine bodyPost_ret ?_ rfl ⟨by rw [HE2.out], ?_⟩
                  · simp [results, Tryd.results20, go_sem, r0, r1, r2]
                  · exact (((h9.setCell (by simp; try omega) _).setCell (by simp; try omega) _).setCell (by simp; try omega) _)
                · rw [if_neg (fun h => hn0 h.2)] at HE1
                  have HE2 := Lib.hid HE1
                  have hn' : ((n : Int) == 0) = false := beq_eq_false_iff_ne.2 (by omega)
                  clear HE1 hdq hq hn0
                  go_wp2_with (go_at_call 32; (with_reducible refine (HC.out _ hb).mono ?_); rintro e w7 ⟨rfl, hb7⟩; have h7 := (hb.trans (hb7.mono hb.size)).alloc (by have := hb.size; have := hb7.size; omega) (.cells #[.int .i64 xk, .int .i64 xi, .string xs] 23); have hz7 := Nat.le_trans hz hb7.size; have HO7 := Lib.hid ((HO.out.below hb7).alloc (.cells #[.int .i64 xk, .int .i64 xi, .string xs] 23)); have bX7 := (bX.below hb7).alloc (.cells #[.int .i64 xk, .int .i64 xi, .string xs] 23); have bR7 := (bR.below hb7).alloc (.cells #[.int .i64 xk, .int .i64 xi, .string xs] 23); have bC7 := Blk.new w7 #[.int .i64 xk, .int .i64 xi, .string xs] 23; have r0 := bR7.cell 0; have r1 := bR7.cell 1; have r2 := bR7.cell 2; have f0 := bR7.frozen 0; have f1 := bR7.frozen 1; have f2 := bR7.frozen 2; simp only [List.getElem?_toArray, List.getElem?_cons_zero, List.getElem?_cons_succ] at r0 r1 r2; have y8 := bX7.cell 8; have c0 := bC7.cell 0; have c1 := bC7.cell 1; have c2 := bC7.cell 2; simp only [List.getElem?_toArray, List.getElem?_cons_zero, List.getElem?_cons_succ] at y8 c0 c1 c2; have k0 := fun n : Kept (w7.alloc (.cells #[.int .i64 xk, .int .i64 xi, .string xs] 23)) => n.cell y8; have k1 := fun n : Kept (w7.alloc (.cells #[.int .i64 xk, .int .i64 xi, .string xs] 23)) => n.cell c0; have k2 := fun n : Kept (w7.alloc (.cells #[.int .i64 xk, .int .i64 xi, .string xs] 23)) => n.cell c1; have k3 := fun n : Kept (w7.alloc (.cells #[.int .i64 xk, .int .i64 xi, .string xs] 23)) => n.cell c2)
                  refine wp_region_kept (by kernel_rfl) (by kernel_rfl) ?_
                  repeat (go_big_quiet_step ((go_at_call 33; (with_reducible exact Calls.kept (refBool_t _)))))
                  refine wpQuiet_nil ?_
                  intro wk hw'
                  obtain ⟨⟨wq, hwq⟩, hw''⟩ := hw'
                  simp only at hw''
                  subst hw''
                  clear k0 k1 k2 k3 r0 r1 r2 f0 f1 f2 y8 c0 c1 c2
                  have h9 := h7.trans (hwq.mono h7.size)
                  have bX9 := bX7.below hwq
                  have bR9 := bR7.below hwq
                  have bC9 := bC7.below hwq
                  have HO9 := Lib.hid (HO7.out.below hwq)
                  have hz9 : w.heap.size + 2 ≤ wk.heap.size := Nat.le_trans (by simp; omega) hwq.size
                  have c0 := bC9.cell 0
                  have c1 := bC9.cell 1
                  have c2 := bC9.cell 2
                  have r0 := bR9.cell 0
                  have r1 := bR9.cell 1
                  have r2 := bR9.cell 2
                  have f0 := bR9.frozen 0
                  have f1 := bR9.frozen 1
                  have f2 := bR9.frozen 2
                  simp only [List.getElem?_toArray, List.getElem?_cons_zero, List.getElem?_cons_succ] at r0 r1 r2
                  simp only [List.getElem?_toArray, List.getElem?_cons_zero, List.getElem?_cons_succ] at c0 c1 c2
                  have HOa := Lib.hid (HO9.out.alloc (.cells #[.int .i64 xk, .int .i64 xi, .string xs] 23))
                  have HVa := Lib.hid (valD_one wk wk.heap.size xk xi xs rfl)
                  have hza : w.heap.size + 2 ≤ (wk.alloc (.cells #[.int .i64 xk, .int .i64 xi, .string xs] 23)).heap.size := by simp; omega
                  have h10 := h9.alloc (by omega) (.cells #[.int .i64 xk, .int .i64 xi, .string xs] 23)
                  have bX10 := bX9.alloc (.cells #[.int .i64 xk, .int .i64 xi, .string xs] 23)
                  have bR10 := bR9.alloc (.cells #[.int .i64 xk, .int .i64 xi, .string xs] 23)
                  have hlen : ((V.take n).map Prod.fst).length ≤ 1048576 := by rw [List.length_map, List.length_take]; omega
                  go_wp2_with (at_builtin; refine wpList_append_g hkDat (by decide) 29 23 i0 _ 32 Tryd.underlying29 HI.out HZ0.out HZ1.out HZ2.out rfl _ rfl _ _ rfl (w.heap.size + 2) _ _ ((V.take n).map Prod.fst) [⟨xk, xi, xs⟩] rfl rfl HOa.out HVa.out (one_dat _) (by unfold maxLen; simp only [List.length_cons, List.length_nil]; omega) (by simp only [List.length_cons, List.length_nil]; omega) hza ?_; intro v8 w8 ho8 hg8)
                  have hgr := OwnG.grown HOa.out hza hg8
                  refine ⟨⟨n + 1, by go_num, by omega, HE2.out, h10.trans (hgr.mono (by omega)), bX10.upto hgr (by omega), bR10.upto hgr (by omega), Nat.le_trans hza hgr.size, by rw [HT.out]; exact Lib.hid ho8⟩, ?_⟩
                  simp only [intOf]
                  omega
              · have hdq := decide_eq_false hq
                simp only [hdq] at hE
                rw [if_neg (fun h => by rw [hdq] at h; exact absurd h.1 (by decide))] at HE1
                have HE2 := Lib.hid HE1
                clear HE1 hdq hq
                go_wp2_with (go_at_call 32; (with_reducible refine (HC.out _ hb).mono ?_); rintro e w7 ⟨rfl, hb7⟩; have h7 := (hb.trans (hb7.mono hb.size)).alloc (by have := hb.size; have := hb7.size; omega) (.cells #[.int .i64 xk, .int .i64 xi, .string xs] 23); have hz7 := Nat.le_trans hz hb7.size; have HO7 := Lib.hid ((HO.out.below hb7).alloc (.cells #[.int .i64 xk, .int .i64 xi, .string xs] 23)); have bX7 := (bX.below hb7).alloc (.cells #[.int .i64 xk, .int .i64 xi, .string xs] 23); have bR7 := (bR.below hb7).alloc (.cells #[.int .i64 xk, .int .i64 xi, .string xs] 23); have bC7 := Blk.new w7 #[.int .i64 xk, .int .i64 xi, .string xs] 23; have r0 := bR7.cell 0; have r1 := bR7.cell 1; have r2 := bR7.cell 2; have f0 := bR7.frozen 0; have f1 := bR7.frozen 1; have f2 := bR7.frozen 2; simp only [List.getElem?_toArray, List.getElem?_cons_zero, List.getElem?_cons_succ] at r0 r1 r2; have y8 := bX7.cell 8; have c0 := bC7.cell 0; have c1 := bC7.cell 1; have c2 := bC7.cell 2; simp only [List.getElem?_toArray, List.getElem?_cons_zero, List.getElem?_cons_succ] at y8 c0 c1 c2; have k0 := fun n : Kept (w7.alloc (.cells #[.int .i64 xk, .int .i64 xi, .string xs] 23)) => n.cell y8; have k1 := fun n : Kept (w7.alloc (.cells #[.int .i64 xk, .int .i64 xi, .string xs] 23)) => n.cell c0; have k2 := fun n : Kept (w7.alloc (.cells #[.int .i64 xk, .int .i64 xi, .string xs] 23)) => n.cell c1; have k3 := fun n : Kept (w7.alloc (.cells #[.int .i64 xk, .int .i64 xi, .string xs] 23)) => n.cell c2)
                refine wp_region_kept (by kernel_rfl) (by kernel_rfl) ?_
                repeat (go_big_quiet_step ((go_at_call 33; (with_reducible exact Calls.kept (refBool_t _)))))
                refine wpQuiet_nil ?_
                intro wk hw'
                obtain ⟨⟨wq, hwq⟩, hw''⟩ := hw'
                simp only at hw''
                subst hw''
                clear k0 k1 k2 k3 r0 r1 r2 f0 f1 f2 y8 c0 c1 c2
                have h9 := h7.trans (hwq.mono h7.size)
                have bX9 := bX7.below hwq
                have bR9 := bR7.below hwq
                have bC9 := bC7.below hwq
                have HO9 := Lib.hid (HO7.out.below hwq)
                have hz9 : w.heap.size + 2 ≤ wk.heap.size := Nat.le_trans (by simp; omega) hwq.size
                have c0 := bC9.cell 0
                have c1 := bC9.cell 1
                have c2 := bC9.cell 2
                have r0 := bR9.cell 0
                have r1 := bR9.cell 1
                have r2 := bR9.cell 2
                have f0 := bR9.frozen 0
                have f1 := bR9.frozen 1
                have f2 := bR9.frozen 2
                simp only [List.getElem?_toArray, List.getElem?_cons_zero, List.getElem?_cons_succ] at r0 r1 r2
                simp only [List.getElem?_toArray, List.getElem?_cons_zero, List.getElem?_cons_succ] at c0 c1 c2
                have HOa := Lib.hid (HO9.out.alloc (.cells #[.int .i64 xk, .int .i64 xi, .string xs] 23))
                have HVa := Lib.hid (valD_one wk wk.heap.size xk xi xs rfl)
                have hza : w.heap.size + 2 ≤ (wk.alloc (.cells #[.int .i64 xk, .int .i64 xi, .string xs] 23)).heap.size := by simp; omega
                have h10 := h9.alloc (by omega) (.cells #[.int .i64 xk, .int .i64 xi, .string xs] 23)
                have bX10 := bX9.alloc (.cells #[.int .i64 xk, .int .i64 xi, .string xs] 23)
                have bR10 := bR9.alloc (.cells #[.int .i64 xk, .int .i64 xi, .string xs] 23)
                have hlen : ((V.take n).map Prod.fst).length ≤ 1048576 := by rw [List.length_map, List.length_take]; omega
                go_wp2_with (at_builtin; refine wpList_append_g hkDat (by decide) 29 23 i0 _ 32 Tryd.underlying29 HI.out HZ0.out HZ1.out HZ2.out rfl _ rfl _ _ rfl (w.heap.size + 2) _ _ ((V.take n).map Prod.fst) [⟨xk, xi, xs⟩] rfl rfl HOa.out HVa.out (one_dat _) (by unfold maxLen; simp only [List.length_cons, List.length_nil]; omega) (by simp only [List.length_cons, List.length_nil]; omega) hza ?_; intro v8 w8 ho8 hg8)
                have hgr := OwnG.grown HOa.out hza hg8
                refine ⟨⟨n + 1, by go_num, by omega, HE2.out, h10.trans (hgr.mono (by omega)), bX10.upto hgr (by omega), bR10.upto hgr (by omega), Nat.le_trans hza hgr.size, by rw [HT.out]; exact Lib.hid ho8⟩, ?_⟩
                simp only [intOf]
                omega
            · have e13 : (op == 13) = false := beq_eq_false_iff_ne.2 h13
              have e14 : (op == 14) = false := beq_eq_false_iff_ne.2 h14
              rw [if_neg (fun h => h17 h.1), setX_other _ h13 h14, if_neg (fun h => absurd h.1 (by decide))] at HE1
              have HE2 := Lib.hid HE1
              clear HE1 h13 h14 h17 h16
              go_wp2_with (go_at_call 32; (with_reducible refine (HC.out _ hb).mono ?_); rintro e w7 ⟨rfl, hb7⟩; have h7 := (hb.trans (hb7.mono hb.size)).alloc (by have := hb.size; have := hb7.size; omega) (.cells #[.int .i64 xk, .int .i64 xi, .string xs] 23); have hz7 := Nat.le_trans hz hb7.size; have HO7 := Lib.hid ((HO.out.below hb7).alloc (.cells #[.int .i64 xk, .int .i64 xi, .string xs] 23)); have bX7 := (bX.below hb7).alloc (.cells #[.int .i64 xk, .int .i64 xi, .string xs] 23); have bR7 := (bR.below hb7).alloc (.cells #[.int .i64 xk, .int .i64 xi, .string xs] 23); have bC7 := Blk.new w7 #[.int .i64 xk, .int .i64 xi, .string xs] 23; have r0 := bR7.cell 0; have r1 := bR7.cell 1; have r2 := bR7.cell 2; have f0 := bR7.frozen 0; have f1 := bR7.frozen 1; have f2 := bR7.frozen 2; simp only [List.getElem?_toArray, List.getElem?_cons_zero, List.getElem?_cons_succ] at r0 r1 r2; have y8 := bX7.cell 8; have c0 := bC7.cell 0; have c1 := bC7.cell 1; have c2 := bC7.cell 2; simp only [List.getElem?_toArray, List.getElem?_cons_zero, List.getElem?_cons_succ] at y8 c0 c1 c2; have k0 := fun n : Kept (w7.alloc (.cells #[.int .i64 xk, .int .i64 xi, .string xs] 23)) => n.cell y8; have k1 := fun n : Kept (w7.alloc (.cells #[.int .i64 xk, .int .i64 xi, .string xs] 23)) => n.cell c0; have k2 := fun n : Kept (w7.alloc (.cells #[.int .i64 xk, .int .i64 xi, .string xs] 23)) => n.cell c1; have k3 := fun n : Kept (w7.alloc (.cells #[.int .i64 xk, .int .i64 xi, .string xs] 23)) => n.cell c2)
              refine wp_region_kept (by kernel_rfl) (by kernel_rfl) ?_
              repeat (go_big_quiet_step (fail))
              refine wpQuiet_nil ?_
              intro wk hw'
              obtain ⟨⟨wq, hwq⟩, hw''⟩ := hw'
              simp only at hw''
              subst hw''
              clear k0 k1 k2 k3 r0 r1 r2 f0 f1 f2 y8 c0 c1 c2
              have h9 := h7.trans (hwq.mono h7.size)
              have bX9 := bX7.below hwq
              have bR9 := bR7.below hwq
              have bC9 := bC7.below hwq
              have HO9 := Lib.hid (HO7.out.below hwq)
              have hz9 : w.heap.size + 2 ≤ wk.heap.size := Nat.le_trans (by simp; omega) hwq.size
              have c0 := bC9.cell 0
              have c1 := bC9.cell 1
              have c2 := bC9.cell 2
              have r0 := bR9.cell 0
              have r1 := bR9.cell 1
              have r2 := bR9.cell 2
              have f0 := bR9.frozen 0
              have f1 := bR9.frozen 1
              have f2 := bR9.frozen 2
              simp only [List.getElem?_toArray, List.getElem?_cons_zero, List.getElem?_cons_succ] at r0 r1 r2
              simp only [List.getElem?_toArray, List.getElem?_cons_zero, List.getElem?_cons_succ] at c0 c1 c2
              have HOa := Lib.hid (HO9.out.alloc (.cells #[.int .i64 xk, .int .i64 xi, .string xs] 23))
              have HVa := Lib.hid (valD_one wk wk.heap.size xk xi xs rfl)
              have hza : w.heap.size + 2 ≤ (wk.alloc (.cells #[.int .i64 xk, .int .i64 xi, .string xs] 23)).heap.size := by simp; omega
              have h10 := h9.alloc (by omega) (.cells #[.int .i64 xk, .int .i64 xi, .string xs] 23)
              have bX10 := bX9.alloc (.cells #[.int .i64 xk, .int .i64 xi, .string xs] 23)
              have bR10 := bR9.alloc (.cells #[.int .i64 xk, .int .i64 xi, .string xs] 23)
              have hlen : ((V.take n).map Prod.fst).length ≤ 1048576 := by rw [List.length_map, List.length_take]; omega
              go_wp2_with (at_builtin; refine wpList_append_g hkDat (by decide) 29 23 i0 _ 32 Tryd.underlying29 HI.out HZ0.out HZ1.out HZ2.out rfl _ rfl _ _ rfl (w.heap.size + 2) _ _ ((V.take n).map Prod.fst) [⟨xk, xi, xs⟩] rfl rfl HOa.out HVa.out (one_dat _) (by unfold maxLen; simp only [List.length_cons, List.length_nil]; omega) (by simp only [List.length_cons, List.length_nil]; omega) hza ?_; intro v8 w8 ho8 hg8)
              have hgr := OwnG.grown HOa.out hza hg8
              refine ⟨⟨n + 1, by go_num, by omega, HE2.out, h10.trans (hgr.mono (by omega)), bX10.upto hgr (by omega), bR10.upto hgr (by omega), Nat.le_trans hza hgr.size, by rw [HT.out]; exact Lib.hid ho8⟩, ?_⟩
              simp only [intOf]
              omega
      · rw [if_pos hf] at HE1
        have HE2 := Lib.hid HE1
        have hf' : (xf != 0) = true := by simpa using hf
        clear HE1 hf h16 HT
        go_wp2_with (go_at_call 32; (with_reducible refine (HC.out _ hb).mono ?_); rintro e w7 ⟨rfl, hb7⟩; have h7 := (hb.trans (hb7.mono hb.size)).alloc (by have := hb.size; have := hb7.size; omega) (.cells #[.int .i64 xk, .int .i64 xi, .string xs] 23); have hz7 := Nat.le_trans hz hb7.size; have HO7 := Lib.hid ((HO.out.below hb7).alloc (.cells #[.int .i64 xk, .int .i64 xi, .string xs] 23)); have bX7 := (bX.below hb7).alloc (.cells #[.int .i64 xk, .int .i64 xi, .string xs] 23); have bR7 := (bR.below hb7).alloc (.cells #[.int .i64 xk, .int .i64 xi, .string xs] 23); have bC7 := Blk.new w7 #[.int .i64 xk, .int .i64 xi, .string xs] 23; have r0 := bR7.cell 0; have r1 := bR7.cell 1; have r2 := bR7.cell 2; have f0 := bR7.frozen 0; have f1 := bR7.frozen 1; have f2 := bR7.frozen 2; simp only [List.getElem?_toArray, List.getElem?_cons_zero, List.getElem?_cons_succ] at r0 r1 r2; have y8 := bX7.cell 8; have c0 := bC7.cell 0; have c1 := bC7.cell 1; have c2 := bC7.cell 2; simp only [List.getElem?_toArray, List.getElem?_cons_zero, List.getElem?_cons_succ] at y8 c0 c1 c2)
        refine bodyPost_ret ?_ rfl ⟨by rw [HE2.out], ?_⟩
        · simp [results, Tryd.results20, go_sem, r0, r1, r2, nulX, nullD]
        · exact (((h7.setCell (by simp; try omega) _).setCell (by simp; try omega) _).setCell (by simp; try omega) _)
    · have hlt' : decide ((n : Int) < m) = false := decide_eq_false (by omega)
      have HE := Lib.hid (oth_none (op := op) (V := V) (n := n) (acc := (V.take n).map Prod.fst) (by omega))
      rw [← HQ.out] at HE
      have HN : Hid (∀ d ∈ (V.take n).map Prod.fst, InI d) := by
        intro d hd
        obtain ⟨x, hx, rfl⟩ := List.mem_map.1 hd
        exact HV.out x (List.mem_of_mem_take hx)
      have HO2 := Lib.hid (OwnG.val hkDat HO.out).weak
      clear HO
      revert HE HO2 HN
      generalize (V.take n).map Prod.fst = L
      intro HE HN HO2
      have r0 := bR.cell 0
      have r1 := bR.cell 1
      have r2 := bR.cell 2
      have f0 := bR.frozen 0
      have f1 := bR.frozen 1
      have f2 := bR.frozen 2
      simp only [List.getElem?_toArray, List.getElem?_cons_zero, List.getElem?_cons_succ] at r0 r1 r2
      by_cases h17 : op = 17
      · subst h17
        clear h16 e16
        rw [if_pos rfl] at HE
        go_wp2_with fail
        refine bodyPost_ret ?_ rfl ⟨by rw [HE.out], ?_⟩
        · simp [results, Tryd.results20, go_sem, r0, r1, r2, nulX, nullD]
        · exact (((hb.setCell (by simp; try omega) _).setCell (by simp; try omega) _).setCell (by simp; try omega) _)
      · have e17 : (op == 17) = false := beq_eq_false_iff_ne.2 h17
        rw [if_neg h17] at HE
        have HA := Lib.hid (refApply_any op L _ wr HO2.out HN.out)
        revert HA HE
        generalize appR op L = tr
        intro HE HA
        obtain ⟨tk, ti, tf⟩ := tr
        unfold triX at HE
        unfold ResT ResPost at HA
        simp only at HA HE
        clear h17 h16
        go_wp2_with (go_at_call 34; (with_reducible refine HA.out.mono ?_); rintro e w9 ⟨rfl, hb9⟩; have h9 := hb.trans (hb9.mono hb.size); have bR9 := bR.below hb9; clear r0 r1 r2 f0 f1 f2; have r0 := bR9.cell 0; have r1 := bR9.cell 1; have r2 := bR9.cell 2; have f0 := bR9.frozen 0; have f1 := bR9.frozen 1; have f2 := bR9.frozen 2; simp only [List.getElem?_toArray, List.getElem?_cons_zero, List.getElem?_cons_succ] at r0 r1 r2)
        refine bodyPost_ret ?_ rfl ⟨by rw [HE.out], ?_⟩
        · simp [results, Tryd.results20, go_sem, r0, r1, r2]
        · exact (((h9.setCell (by simp; try omega) _).setCell (by simp; try omega) _).setCell (by simp; try omega) _)


end Go.Proofs.YtbjcebnahllnjaaDoor

namespace Go.Proofs.YtbjcebnahllnjaaDoor
open Go.RowKit

/-- Literals' numbers are within 64 bits, kids are not too many. -/
inductive ExB : Ex → Prop
  | mk (e : Ex) (hI : InI e.lit) (hn : e.kids.length ≤ 1048576) (hk : ∀ x ∈ e.kids, ExB x) : ExB e
theorem ExB.lit {e : Ex} (h : ExB e) : InI e.lit := by cases h; assumption
theorem ExB.len {e : Ex} (h : ExB e) : e.kids.length ≤ 1048576 := by cases h; assumption
theorem ExB.kid {e : Ex} (h : ExB e) : ∀ x ∈ e.kids, ExB x := by cases h; assumption

theorem nulX_in (f : Int) : InI (nulX f).1 := ⟨(by decide : (-9223372036854775808 : Int) ≤ 0), (by decide : (0 : Int) ≤ 9223372036854775807)⟩
theorem caseX_in : ∀ V : List Va, (∀ x ∈ V, InI x.1) → InI (caseX V).1
  | [], _ => by rw [caseX]; exact nulX_in _
  | [a], h => by rw [caseX]; exact h a (by simp)
  | a :: b :: l, h => by
    rw [caseX]
    split
    · exact nulX_in _
    · split
      · exact nulX_in _
      · split
        · exact h b (by simp)
        · exact caseX_in l fun x hx => h x (by simp [hx])
theorem othX_in (happ : ∀ op L, (∀ d ∈ L, InI d) → InI (triX (appR op L)).1) (op : Int) : ∀ (V : List Va) (n : Nat) (acc : List Dat), (∀ x ∈ V, InI x.1) → (∀ d ∈ acc, InI d) → InI (othX op n acc V).1
  | [], n, acc, _, ha => by
    rw [othX]
    split
    · exact nulX_in _
    · exact happ op acc ha
  | x :: l, n, acc, h, ha => by
    rw [othX]
    split
    · exact nulX_in _
    · split
      · exact h x (by simp)
      · split
        · exact h x (by simp)
        · refine othX_in happ op l (n + 1) _ (fun y hy => h y (by simp [hy])) fun d hd => ?_
          rcases List.mem_append.1 hd with hd | hd
          · exact ha d hd
          · rw [List.mem_singleton] at hd
            rw [hd]
            exact h x (by simp)
theorem colX_in {lv col : Int} {env : Env} {d : Dat} (hE : ∀ r ∈ env, ∀ d ∈ r.l, InI d) (h : colX lv col env = some d) : InI d := by
  unfold colX at h
  split at h
  · cases he : env[lv.toNat]? with
    | none => rw [he] at h; cases h
    | some r =>
      rw [he] at h
      exact hE r (List.mem_of_getElem? he) d (List.mem_of_getElem? h)
  · cases h
theorem valXs_in (env : Env) (P : Ex → Prop) (hP : ∀ x, P x → ∀ S : List Dat, (∀ d ∈ S, InI d) → InI (valX env x S).1) : ∀ (L : List Ex) (S : List Dat), (∀ x ∈ L, P x) → (∀ d ∈ S, InI d) → ∀ y ∈ valXs env L S, InI y.1
  | [], S, _, _, y, hy => by rw [valXs_nil] at hy; cases hy
  | e :: l, S, h, hS, y, hy => by
    rw [valXs_cons] at hy
    rcases List.mem_cons.1 hy with rfl | hy
    · exact hP e (h e (by simp)) _ fun d hd => hS d (List.mem_of_mem_take hd)
    · exact valXs_in env P hP l _ (fun x hx => h x (by simp [hx])) (fun d hd => hS d (List.mem_of_mem_drop hd)) y hy
theorem valX_in (happ : ∀ op L, (∀ d ∈ L, InI d) → InI (triX (appR op L)).1) {env : Env} (hE : ∀ r ∈ env, ∀ d ∈ r.l, InI d) {e : Ex} (h : ExB e) : ∀ S : List Dat, (∀ d ∈ S, InI d) → InI (valX env e S).1 := by
  induction h with
  | mk e hI hn hk ih =>
    intro S hS
    rw [valX_eq]
    split
    · exact hI
    · split
      · cases hc : colX e.lv e.col env with
        | none => exact ⟨by decide, by decide⟩
        | some d => exact colX_in hE hc
      · split
        · have hV := valXs_in env (fun x => x ∈ e.kids) (fun x hx S hS => ih x hx S hS) e.kids S (fun x hx => hx) hS
          unfold callX
          split
          · exact caseX_in _ hV
          · exact othX_in happ _ _ _ _ hV (by simp)
        · cases S with
          | nil => exact ⟨by decide, by decide⟩
          | cons d l => exact hS d (by simp)

/-- Of. -/
theorem exOf_any (happ : ∀ op L, (∀ d ∈ L, InI d) → InI (triX (appR op L)).1) {w0 : World} {e : Ex} (h : ExOk w0 e) (env : Env) (vE : Value) (hE : EnvV w0 vE env) (hEI : ∀ r ∈ env, ∀ d ∈ r.l, InI d) :
    ExB e → rightX env e = true → (subsX e).length ≤ 1048576 → ∀ (w : World) (v : Value) (S : List Dat), Below w0.heap.size w0 w → DatV w v S → S.length = (subsX e).length → (∀ d ∈ S, InI d) →
    Calls Tryd.prog 12 #[exVal e, vE, v] w (ValPost (valX env e S) w) := by
  induction h with
  | mk e hv hs hk ih =>
    intro hB hr hl w v S hb0 hS hSl hSI
    have hvE : SliceV vE := by obtain ⟨A, c, rfl, _, _⟩ := hE.slice; exact ⟨_, _, _, rfl⟩
    have hvS : SliceV v := by obtain ⟨A, c, rfl, _, _⟩ := hS.len; exact ⟨_, _, _, rfl⟩
    obtain ⟨sA, sn, sc, hsv⟩ := hs
    obtain ⟨A, c, hkv, hc, hm⟩ := hv.slice
    rw [rightX_eq] at hr
    rw [subsX_eq] at hl hSl
    rw [valX_eq]
    have hlit := hB.lit
    have hlen := hB.len
    have hkB := hB.kid
    clear hB
    obtain ⟨k, t, nl, lit, lv, col, op, kv, sv, kids⟩ := e
    simp only at hsv hkv hr hl hSl hlit hlen hkB ih hv hk ⊢
    subst hsv hkv
    by_cases h1 : k = 1
    · subst h1
      rw [if_pos rfl]
      exact exOf_lit t nl lit lv col op A sA kids.length c sn sc vE v hvE hvS w
    · rw [if_neg h1] at hr ⊢
      by_cases h2 : k = 2
      · subst h2
        rw [if_pos rfl] at hr ⊢
        cases hc : colX lv col env with
        | none => rw [hc] at hr; cases hr
        | some d => exact exOf_col t nl lit lv col op A sA kids.length c sn sc vE v hvS env w (hE.below hb0) d hc
      · rw [if_neg h2] at hr ⊢
        by_cases h3 : k = 3
        · subst h3
          rw [if_pos rfl] at hr ⊢
          rw [if_neg (by decide), if_pos rfl] at hl hSl
          rw [Bool.and_eq_true, rightXs_all, List.all_eq_true] at hr
          refine exOf_call t nl lit lv col op A sA kids.length c sn sc vE v hvE hvS _ w fun w1 hb1 => ?_
          have hb01 := hb0.trans (hb1.mono hb0.size)
          have hV : (valXs env kids S).length = kids.length := valXs_length env kids S
          have hI := valXs_in env (fun x => x ∈ kids) (fun x hx S hS => valX_in happ hEI (hkB x hx) S hS) kids S (fun x hx => hx) hSI
          have HK : Hid (∀ (n : Nat) (hn : n < (valXs env kids S).length) (w' : World), Below w1.heap.size w1 w' → Calls Tryd.prog 32 #[.agg #[.int .i64 3, .int .i64 t, .bool nl, .int .i64 lit.k, .int .i64 lit.i, .string lit.s, .int .i64 lv, .int .i64 col, .int .i64 op, .slice A kids.length c, .slice sA sn sc], .int .i64 n, vE, v] w' (ValPost (valXs env kids S)[n] w')) := by
            intro n hn w' hb'
            have hn' : n < kids.length := by omega
            refine exKid_any (w0 := w1) 3 t nl lit lv col op A sA c sn sc kids vE hvE v S env (hv.below hb01) (fun x hx => (hk x hx).later hb01) (hS.below hb1) hSl hl n hn' ?_ _ (List.getElem?_eq_getElem hn) w' hb'
            intro w2 v2 S2 hb2 hS2 hl2 hsub
            refine ih kids[n] (List.getElem_mem hn') (hkB _ (List.getElem_mem hn')) (hr.1 _ (List.getElem_mem hn')) ?_ w2 v2 S2 (hb01.trans (hb2.mono hb01.size)) hS2 hl2 fun d hd => hSI d (hsub d hd)
            have h := subsXs_le kids (n + 1)
            rw [subsXs_take kids n hn', List.length_append] at h
            omega
          unfold callX
          by_cases h16 : op = 16
          · subst h16
            rw [if_pos rfl]
            exact exCall_case 3 t nl lit lv col A sA kids.length c sn sc vE v hvE hvS _ hV hm w1 HK
          · rw [if_neg h16]
            exact exCall_oth 3 t nl lit lv col op A sA kids.length c sn sc vE v hvE hvS _ hV hlen hI h16 w1 HK
        · rw [if_neg h3] at hr ⊢
          have h4 := of_decide_eq_true hr
          rw [if_pos h4.1] at hSl
          match S, hS, hSl with
          | [d], hS, _ => exact exOf_sub k t nl lit lv col op A sA kids.length c sn sc vE v hvE d h1 h2 h3 w hS
          | [], _, hSl => simp at hSl
          | _ :: _ :: _, _, hSl => simp at hSl

end Go.Proofs.YtbjcebnahllnjaaDoor

namespace Go.Proofs.YtbjcebnahllnjaaDoor
open Go.RowKit

def InT (t : Tri) : Prop := -9223372036854775808 ≤ t.2.1 ∧ t.2.1 ≤ 9223372036854775807
theorem inT_const (k i e : Int) (h : -9223372036854775808 ≤ i ∧ i ≤ 9223372036854775807) : InT (k, i, e) := h
theorem inT_zero (k e : Int) : InT (k, 0, e) := ⟨by show (-9223372036854775808 : Int) ≤ 0; decide, by show (0 : Int) ≤ 9223372036854775807; decide⟩
theorem inT_bit (k e : Int) (b : Bool) : InT (k, bitOf b, e) := by
  cases b
  · exact ⟨by show (-9223372036854775808 : Int) ≤ 0; decide, by show (0 : Int) ≤ 9223372036854775807; decide⟩
  · exact ⟨by show (-9223372036854775808 : Int) ≤ 1; decide, by show (1 : Int) ≤ 9223372036854775807; decide⟩
theorem inT_fit (k z : Int) : InT (fitT k z) := by
  unfold fitT
  refine inT_const _ _ _ ?_
  unfold fitI
  split
  · rename_i h
    exact of_decide_eq_true h
  · exact ⟨by decide, by decide⟩
theorem inT_join (k1 i1 k2 i2 st : Int) : InT (joinR k1 i1 k2 i2 st) := by
  unfold joinR
  repeat' split
  all_goals first
    | exact inT_zero _ _
    | exact inT_bit _ _ _
theorem inT_not (k i : Int) : InT (notR k i) := by
  unfold notR
  repeat' split
  all_goals first
    | exact inT_zero _ _
    | exact inT_bit _ _ _
theorem inT_len (d : Dat) (h : rightD d = true) : InT (lenR d) := by
  have hs := rightD_size d h
  have hr := runeC_le d.s 0 (Nat.zero_le _)
  unfold lenR
  split
  · exact inT_zero _ _
  · split
    · exact inT_zero _ _
    · split
      · exact inT_const _ _ _ (by omega)
      · exact inT_const _ _ _ (by omega)
theorem inT_un (op : Int) (a : Dat) (h : InI a) : InT (unR op a) := by
  unfold unR
  repeat' split
  all_goals first
    | exact inT_zero _ _
    | exact inT_fit _ _
    | exact inT_const _ _ _ h
theorem inT_two (op k u z1 z2 : Int) : InT (twoR op k u z1 z2) := by
  unfold twoR
  repeat' split
  all_goals first
    | exact inT_zero _ _
    | exact inT_fit _ _
theorem inT_bin (op : Int) (a b : Dat) : InT (binR op a b) := by
  unfold binR
  repeat' split
  all_goals first
    | exact inT_zero _ _
    | exact inT_two _ _ _ _ _
theorem inT_rel (op : Int) (a b : Dat) : InT (relR op a b) := by
  unfold relR
  repeat' split
  all_goals first
    | exact inT_zero _ _
    | exact inT_bit _ _ _
theorem inT_app (op : Int) (L : List Dat) (h : ∀ d ∈ L, InI d) : InT (appR op L) := by
  unfold appR
  split
  · exact inT_zero _ _
  · rename_i hn
    have hr : L.all rightD = true := by
      cases ha : L.all rightD
      · exact absurd (.inr (.inr ha)) hn
      · rfl
    split
    · rename_i a
      have ha : rightD a = true := by simpa using hr
      unfold oneR
      repeat' split
      all_goals first
        | exact inT_bit _ _ _
        | exact inT_not _ _
        | exact inT_len _ ha
        | exact inT_un _ _ (h a (by simp))
    · unfold bothR
      repeat' split
      all_goals first
        | exact inT_join _ _ _ _ _
        | exact inT_rel _ _ _
        | exact inT_bin _ _ _
    · exact inT_zero _ _
theorem app_in (op : Int) (L : List Dat) (h : ∀ d ∈ L, InI d) : InI (triX (appR op L)).1 := inT_app op L h

theorem exOf {w0 : World} {e : Ex} (h : ExOk w0 e) (env : Env) (vE : Value) (hE : EnvV w0 vE env) (hEI : ∀ r ∈ env, ∀ d ∈ r.l, InI d) (hB : ExB e) (hr : rightX env e = true) (hl : (subsX e).length ≤ 1048576)
    (w : World) (v : Value) (S : List Dat) (hb : Below w0.heap.size w0 w) (hS : DatV w v S) (hn : S.length = (subsX e).length) (hSI : ∀ d ∈ S, InI d) :
    Calls Tryd.prog 12 #[exVal e, vE, v] w (ValPost (valX env e S) w) :=
  exOf_any app_in h env vE hE hEI hB hr hl w v S hb hS hn hSI

end Go.Proofs.YtbjcebnahllnjaaDoor

namespace Go.Proofs.YtbjcebnahllnjaaDoor
open Go.RowKit

/-- Value. -/
def valueX (env : Env) (e : Ex) (S : List Dat) : Va := if rightX env e = false ∨ (subsX e).length ≠ S.length ∨ S.all rightD = false then nulX 1 else valX env e S

set_option maxRecDepth 100000 in
set_option maxHeartbeats 8000000 in
theorem exValue_raw (k t : Int) (nl : Bool) (lit : Dat) (lv col op : Int) (A sA : Option Addr) (m c sn sc : Nat) (vE vS : Value) (hvE : SliceV vE) (S : List Dat) (rx : Bool) (ns : Nat) (hns : ns ≤ 1048576) (x : Va) (w : World) (hS : DatV w vS S)
    (HR : Hid (∀ w', Below w.heap.size w w' → Calls Tryd.prog 7 #[.agg #[.int .i64 k, .int .i64 t, .bool nl, .int .i64 lit.k, .int .i64 lit.i, .string lit.s, .int .i64 lv, .int .i64 col, .int .i64 op, .slice A m c, .slice sA sn sc], vE] w' (RightPost rx w')))
    (HS : Hid (∀ w', Below w.heap.size w w' → Calls Tryd.prog 8 #[.agg #[.int .i64 k, .int .i64 t, .bool nl, .int .i64 lit.k, .int .i64 lit.i, .string lit.s, .int .i64 lv, .int .i64 col, .int .i64 op, .slice A m c, .slice sA sn sc]] w' (fun e w2 => ∃ A c, e = .returned (.slice A ns c) ∧ True ∧ Below w'.heap.size w' w2)))
    (HO : Hid (rx = true → ns = S.length → S.all rightD = true → ∀ w', Below w.heap.size w w' → Calls Tryd.prog 12 #[.agg #[.int .i64 k, .int .i64 t, .bool nl, .int .i64 lit.k, .int .i64 lit.i, .string lit.s, .int .i64 lv, .int .i64 col, .int .i64 op, .slice A m c, .slice sA sn sc], vE, vS] w' (ValPost x w'))) :
    Calls Tryd.prog 6 #[.agg #[.int .i64 k, .int .i64 t, .bool nl, .int .i64 lit.k, .int .i64 lit.i, .string lit.s, .int .i64 lv, .int .i64 col, .int .i64 op, .slice A m c, .slice sA sn sc], vE, vS] w (ValPost (if rx = false ∨ ns ≠ S.length ∨ S.all rightD = false then nulX 1 else x) w) := by
  obtain ⟨Ae, ne, ce, rfl⟩ := hvE
  obtain ⟨As, cs, rfl, hcs, hms⟩ := hS.len
  have HV := Lib.hid hS
  clear hS
  unfold maxLen at hms
  have hb1 := (Below.refl w.heap.size w).alloc (Nat.le_refl _) (.cells #[.int .i64 k, .int .i64 t, .bool nl, .int .i64 lit.k, .int .i64 lit.i, .string lit.s, .int .i64 lv, .int .i64 col, .int .i64 op, .slice A m c, .slice sA sn sc] 27)
  have hb2 := hb1.alloc hb1.size (.cells #[.int .i64 0, .int .i64 0, .string noText] 23)
  have bX := (Blk.new w #[.int .i64 k, .int .i64 t, .bool nl, .int .i64 lit.k, .int .i64 lit.i, .string lit.s, .int .i64 lv, .int .i64 col, .int .i64 op, .slice A m c, .slice sA sn sc] 27).alloc (.cells #[.int .i64 0, .int .i64 0, .string noText] 23)
  have bR := Blk.new (w.alloc (.cells #[.int .i64 k, .int .i64 t, .bool nl, .int .i64 lit.k, .int .i64 lit.i, .string lit.s, .int .i64 lv, .int .i64 col, .int .i64 op, .slice A m c, .slice sA sn sc] 27)) #[.int .i64 0, .int .i64 0, .string noText] 23
  rw [show (w.alloc (.cells #[.int .i64 k, .int .i64 t, .bool nl, .int .i64 lit.k, .int .i64 lit.i, .string lit.s, .int .i64 lv, .int .i64 col, .int .i64 op, .slice A m c, .slice sA sn sc] 27)).heap.size = w.heap.size + 1 by simp] at bR
  obtain ⟨Y, hY⟩ : ∃ Y, (if rx = false ∨ ns ≠ S.length ∨ S.all rightD = false then nulX 1 else x) = Y := ⟨_, rfl⟩
  rw [hY]
  have HY := Lib.hid hY
  clear hY
  cases rx
  · have HE : Hid (Y = nulX 1) := by have := HY.out; rw [if_pos (.inl rfl)] at this; exact this.symm
    go_enter Tryd.func6, Tryd.ntmps6
    go_wp2_with (go_at_call 7; (with_reducible refine (HR.out _ hb2).mono ?_); rintro e w5 ⟨rfl, hb5⟩; have h5 := hb2.trans (hb5.mono hb2.size); have bX5 := bX.below hb5; have bR5 := bR.below hb5; have y0 := bX5.cell 0; have y1 := bX5.cell 1; have y2 := bX5.cell 2; have y3 := bX5.cell 3; have y4 := bX5.cell 4; have y5 := bX5.cell 5; have y6 := bX5.cell 6; have y7 := bX5.cell 7; have y8 := bX5.cell 8; have y9 := bX5.cell 9; have y10 := bX5.cell 10; simp only [List.getElem?_toArray, List.getElem?_cons_zero, List.getElem?_cons_succ] at y0 y1 y2 y3 y4 y5 y6 y7 y8 y9 y10; have r0 := bR5.cell 0; have r1 := bR5.cell 1; have r2 := bR5.cell 2; have f0 := bR5.frozen 0; have f1 := bR5.frozen 1; have f2 := bR5.frozen 2; simp only [List.getElem?_toArray, List.getElem?_cons_zero, List.getElem?_cons_succ] at r0 r1 r2)
    refine bodyPost_ret ?_ rfl ⟨by rw [HE.out], ?_⟩
    · simp [results, Tryd.results6, go_sem, r0, r1, r2, nulX, nullD]
    · exact (((h5.setCell (by simp; try omega) _).setCell (by simp; try omega) _).setCell (by simp; try omega) _)
  · by_cases hn : ns = S.length
    · subst hn
      have hne : ((S.length : Int) != S.length) = false := by simp
      go_enter Tryd.func6, Tryd.ntmps6
      go_wp2_with (first
        | (go_at_call 7; (with_reducible refine (HR.out _ hb2).mono ?_); rintro e w5 ⟨rfl, hb5⟩; have h5 := hb2.trans (hb5.mono hb2.size); have bX5 := bX.below hb5; have bR5 := bR.below hb5; have y0 := bX5.cell 0; have y1 := bX5.cell 1; have y2 := bX5.cell 2; have y3 := bX5.cell 3; have y4 := bX5.cell 4; have y5 := bX5.cell 5; have y6 := bX5.cell 6; have y7 := bX5.cell 7; have y8 := bX5.cell 8; have y9 := bX5.cell 9; have y10 := bX5.cell 10; simp only [List.getElem?_toArray, List.getElem?_cons_zero, List.getElem?_cons_succ] at y0 y1 y2 y3 y4 y5 y6 y7 y8 y9 y10; have r0 := bR5.cell 0; have r1 := bR5.cell 1; have r2 := bR5.cell 2; have f0 := bR5.frozen 0; have f1 := bR5.frozen 1; have f2 := bR5.frozen 2; simp only [List.getElem?_toArray, List.getElem?_cons_zero, List.getElem?_cons_succ] at r0 r1 r2)
        | (go_at_call 8; (with_reducible refine (HS.out _ h5).mono ?_); rintro e w6 ⟨A6, c6, rfl, ho6, hb6⟩; have h6 := h5.trans (hb6.mono h5.size); have bX6 := bX5.below hb6; have bR6 := bR5.below hb6; clear r0 r1 r2 f0 f1 f2; have r0 := bR6.cell 0; have r1 := bR6.cell 1; have r2 := bR6.cell 2; have f0 := bR6.frozen 0; have f1 := bR6.frozen 1; have f2 := bR6.frozen 2; simp only [List.getElem?_toArray, List.getElem?_cons_zero, List.getElem?_cons_succ] at r0 r1 r2))
      go_loopw [25] (fun i wr => ∃ n : Nat, i = .int .i64 n ∧ n ≤ S.length ∧ Hid ((S.take n).all rightD = true) ∧ Below w.heap.size w wr ∧ Blk wr w.heap.size #[.int .i64 k, .int .i64 t, .bool nl, .int .i64 lit.k, .int .i64 lit.i, .string lit.s, .int .i64 lv, .int .i64 col, .int .i64 op, .slice A m c, .slice sA sn sc] 27 ∧ Blk wr (w.heap.size + 1) #[.int .i64 0, .int .i64 0, .string noText] 23) (fun i _ => S.length - (intOf i).toNat)
      case atStart => exact ⟨0, rfl, Nat.zero_le _, rfl, h6, bX6, bR6⟩
      case round =>
        clear h5 h6 bX5 bR5 bX6 bR6 r0 r1 r2 f0 f1 f2 y0 y1 y2 y3 y4 y5 y6 y7 y8 y9 y10 hb1 hb2 bX bR
        obtain ⟨n, rfl, hn, HA, hb, bX, bR⟩ := hrel
        by_cases hlt : n < S.length
        · rcases HV.out with ⟨_, h0⟩ | ⟨b, off, c', e, _, hbl, hat, _⟩
          · rw [h0] at hlt; simp at hlt
          · injection e with e1 e2 e3
            subst e1 e3
            obtain ⟨h0, h1, h2⟩ := (hat.block (hb.block b hbl)).dat n hlt
            have HP : Hid (rightD S[n] = true → (S.take (n + 1)).all rightD = true) := fun hp => all_take hlt HA.out hp
            have HN : Hid (rightD S[n] = false → S.all rightD = false) := fun hp => by rw [List.all_eq_false]; exact ⟨_, List.getElem_mem hlt, by simp [hp]⟩
            clear hat hbl hn HA
            revert HP HN h0 h1 h2
            generalize S[n] = d
            obtain ⟨dk, di, ds⟩ := d
            intro h0 h1 h2 HP HN
            simp only at h0 h1 h2
            have hz := hb.size
            have hn1 : (n : Int) + 1 ≤ 9223372036854775807 := by omega
            have HRD := Lib.hid (fun w => refRight_any dk di ds w)
            have bXo := bX.alloc (.cells #[.int .i64 dk, .int .i64 di, .string ds] 23)
            have bRo := bR.alloc (.cells #[.int .i64 dk, .int .i64 di, .string ds] 23)
            have hbo := hb.alloc hz (.cells #[.int .i64 dk, .int .i64 di, .string ds] 23)
            cases hd : rightD ⟨dk, di, ds⟩
            · rw [hd] at HRD
              have HQ := Lib.hid (HN.out hd)
              clear hd HP HN
              have HE : Hid (Y = nulX 1) := by have := HY.out; rw [if_pos (.inr (.inr HQ.out))] at this; exact this.symm
              go_wp2_with (go_at_call 9; (with_reducible refine (HRD.out _).mono ?_); rintro e w5 ⟨rfl, hb5⟩; have bR5 := bRo.below hb5; have h5 := hbo.trans (hb5.mono hbo.size); have r0 := bR5.cell 0; have r1 := bR5.cell 1; have r2 := bR5.cell 2; have f0 := bR5.frozen 0; have f1 := bR5.frozen 1; have f2 := bR5.frozen 2; simp only [List.getElem?_toArray, List.getElem?_cons_zero, List.getElem?_cons_succ] at r0 r1 r2)
              refine bodyPost_ret ?_ rfl ⟨by rw [HE.out], ?_⟩
              · simp [results, Tryd.results6, go_sem, r0, r1, r2, nulX, nullD]
              · exact (((h5.setCell (by simp; try omega) _).setCell (by simp; try omega) _).setCell (by simp; try omega) _)
            · rw [hd] at HRD
              have HQ := Lib.hid (HP.out hd)
              clear hd HP HN
              go_wp2_with (go_at_call 9; (with_reducible refine (HRD.out _).mono ?_); rintro e w5 ⟨rfl, hb5⟩; have bX5 := bXo.below hb5; have bR5 := bRo.below hb5; have h5 := hbo.trans (hb5.mono hbo.size))
              refine ⟨⟨n + 1, by go_num, hlt, HQ, h5, bX5, bR5⟩, ?_⟩
              simp [intOf]
              go_num
        · have HQ : Hid (S.all rightD = true) := by
            have := HA.out
            rw [List.take_of_length_le (by omega)] at this
            exact this
          have HO2 := Lib.hid (HO.out (by first | trivial | rfl) (by first | trivial | rfl) HQ.out wr hb)
          have HE : Hid (Y = x) := by have := HY.out; rw [if_neg (by rw [HQ.out]; simp)] at this; exact this.symm
          clear HA
          obtain ⟨⟨xk, xi, xs⟩, xf⟩ := x
          have y0 := bX.cell 0
          have y1 := bX.cell 1
          have y2 := bX.cell 2
          have y3 := bX.cell 3
          have y4 := bX.cell 4
          have y5 := bX.cell 5
          have y6 := bX.cell 6
          have y7 := bX.cell 7
          have y8 := bX.cell 8
          have y9 := bX.cell 9
          have y10 := bX.cell 10
          simp only [List.getElem?_toArray, List.getElem?_cons_zero, List.getElem?_cons_succ] at y0 y1 y2 y3 y4 y5 y6 y7 y8 y9 y10
          go_wp2_with (go_at_call 12; (with_reducible refine HO2.out.mono ?_); rintro e w7 ⟨rfl, hb7⟩; have h7 := hb.trans (hb7.mono hb.size); have bR7 := bR.below hb7; have r0 := bR7.cell 0; have r1 := bR7.cell 1; have r2 := bR7.cell 2; have f0 := bR7.frozen 0; have f1 := bR7.frozen 1; have f2 := bR7.frozen 2; simp only [List.getElem?_toArray, List.getElem?_cons_zero, List.getElem?_cons_succ] at r0 r1 r2)
          refine bodyPost_ret ?_ rfl ⟨by rw [HE.out], ?_⟩
          · simp [results, Tryd.results6, go_sem, r0, r1, r2]
          · exact (((h7.setCell (by simp; try omega) _).setCell (by simp; try omega) _).setCell (by simp; try omega) _)
    · have hne : ((ns : Int) != S.length) = true := by simp; omega
      have HE : Hid (Y = nulX 1) := by have := HY.out; rw [if_pos (.inr (.inl hn))] at this; exact this.symm
      go_enter Tryd.func6, Tryd.ntmps6
      go_wp2_with (first
        | (go_at_call 7; (with_reducible refine (HR.out _ hb2).mono ?_); rintro e w5 ⟨rfl, hb5⟩; have h5 := hb2.trans (hb5.mono hb2.size); have bX5 := bX.below hb5; have bR5 := bR.below hb5; have y0 := bX5.cell 0; have y1 := bX5.cell 1; have y2 := bX5.cell 2; have y3 := bX5.cell 3; have y4 := bX5.cell 4; have y5 := bX5.cell 5; have y6 := bX5.cell 6; have y7 := bX5.cell 7; have y8 := bX5.cell 8; have y9 := bX5.cell 9; have y10 := bX5.cell 10; simp only [List.getElem?_toArray, List.getElem?_cons_zero, List.getElem?_cons_succ] at y0 y1 y2 y3 y4 y5 y6 y7 y8 y9 y10; have r0 := bR5.cell 0; have r1 := bR5.cell 1; have r2 := bR5.cell 2; have f0 := bR5.frozen 0; have f1 := bR5.frozen 1; have f2 := bR5.frozen 2; simp only [List.getElem?_toArray, List.getElem?_cons_zero, List.getElem?_cons_succ] at r0 r1 r2)
        | (go_at_call 8; (with_reducible refine (HS.out _ h5).mono ?_); rintro e w6 ⟨A6, c6, rfl, ho6, hb6⟩; have h6 := h5.trans (hb6.mono h5.size); have bX6 := bX5.below hb6; have bR6 := bR5.below hb6; clear r0 r1 r2 f0 f1 f2; have r0 := bR6.cell 0; have r1 := bR6.cell 1; have r2 := bR6.cell 2; have f0 := bR6.frozen 0; have f1 := bR6.frozen 1; have f2 := bR6.frozen 2; simp only [List.getElem?_toArray, List.getElem?_cons_zero, List.getElem?_cons_succ] at r0 r1 r2))
      refine bodyPost_ret ?_ rfl ⟨by rw [HE.out], ?_⟩
      · simp [results, Tryd.results6, go_sem, r0, r1, r2, nulX, nullD]
      · exact (((h6.setCell (by simp; try omega) _).setCell (by simp; try omega) _).setCell (by simp; try omega) _)

theorem exValue {w0 : World} {e : Ex} (h : ExOk w0 e) (env : Env) (vE : Value) (hE : EnvV w0 vE env) (hEI : ∀ r ∈ env, ∀ d ∈ r.l, InI d) (hB : ExB e) (hl : (subsX e).length ≤ 1048576)
    (w : World) (v : Value) (S : List Dat) (hb : Below w0.heap.size w0 w) (hS : DatV w v S) (hSI : ∀ d ∈ S, InI d) :
    Calls Tryd.prog 6 #[exVal e, vE, v] w (ValPost (valueX env e S) w) := by
  have hvE : SliceV vE := by obtain ⟨A, c, rfl, _, _⟩ := hE.slice; exact ⟨_, _, _, rfl⟩
  have HR := fun w' (hb' : Below w.heap.size w w') => exRight_any h env vE hE w' (hb.trans (hb'.mono hb.size))
  have HS := fun w' (hb' : Below w.heap.size w w') => subs_any h hl w' (hb.trans (hb'.mono hb.size))
  have HO := fun (hr : rightX env e = true) (hn : (subsX e).length = S.length) w' (hb' : Below w.heap.size w w') => exOf h env vE hE hEI hB hr hl w' v S (hb.trans (hb'.mono hb.size)) (hS.below hb') hn.symm hSI
  unfold valueX
  obtain ⟨A, c, hkv, _, _⟩ := h.kv.slice
  obtain ⟨sA, sn, sc, hsv⟩ := h.sv
  clear hE hEI hB h
  obtain ⟨k, t, nl, lit, lv, col, op, kv, sv, kids⟩ := e
  simp only at hkv hsv
  subst hkv hsv
  refine exValue_raw k t nl lit lv col op A sA kids.length c sn sc vE v hvE S (rightX env _) _ hl _ w hS HR (fun w' hb' => (HS w' hb').mono ?_) (fun hr hn _ => HO hr hn)
  rintro e w2 ⟨A, c, h1, _, h3⟩
  exact ⟨A, c, h1, trivial, h3⟩

end Go.Proofs.YtbjcebnahllnjaaDoor
