/-
  What expressions are worth, as plain functions, and what holds of them.
  A region whose order is drawn, whose operations read old memory, and whose callees make memory of their own alone: one walk in the order of the text serves every order.
-/
import Derived.Test.YtippffjhkinfoaaGreatDoorExA
import Derived.Test.YtippffjhkinfoaaGreatDoorRefApp
import Derived.Test.YtippffjhkinfoaaGreatDoorPosts
import Derived.Test.YtippffjhkinfoaaGreatDoorCells
import Derived.BigQuiet
namespace Go.Proofs.YtippffjhkinfoaaGreatDoor
open Go.RowKit

/-- A value and an error. -/
abbrev Va := Dat × Int
def nulX (f : Int) : Va := (nullD, f)
def triX (t : Tri) : Va := (⟨t.1, t.2.1, noText⟩, t.2.2)
/-- CASE, of its kids' values. -/
def caseX : List Va → Va
  | [] => nulX 0
  | [a] => a
  | a :: b :: l => if a.2 ≠ 0 then nulX a.2 else if 1 < a.1.k then nulX 5 else if a.1.k = 1 ∧ a.1.i = 1 then b else caseX l
/-- Does the first value settle it? -/
def setX (op : Int) (d : Dat) : Bool := decide (op = 13 ∧ d.k = 1 ∧ d.i = 0 ∧ d.s = noText) || decide (op = 14 ∧ d.k = 1 ∧ d.i = 1 ∧ d.s = noText)
/-- Any other operator, from its i-th kid on, the values so far in acc. -/
def othX (op : Int) : Nat → List Dat → List Va → Va
  | _, acc, [] => if op = 17 then nulX 0 else triX (appR op acc)
  | i, acc, x :: l => if x.2 ≠ 0 then nulX x.2 else if op = 17 ∧ x.1.k ≠ 0 then (x.1, 0) else if setX op x.1 = true ∧ i = 0 then (x.1, 0) else othX op (i + 1) (acc ++ [x.1]) l
def callX (op : Int) (V : List Va) : Va := if op = 16 then caseX V else othX op 0 [] V
mutual
/-- What an expression is worth, on rows and subqueries' values. -/
def valX (env : Env) : Ex → List Dat → Va
  | ⟨k, _, _, lit, lv, col, op, _, _, kids⟩, S => if k = 1 then (lit, 0) else if k = 2 then ((colX lv col env).getD nullD, 0) else if k = 3 then callX op (valXs env kids S) else (S.headD nullD, 0)
def valXs (env : Env) : List Ex → List Dat → List Va
  | [], _ => []
  | e :: l, S => valX env e (S.take (subsX e).length) :: valXs env l (S.drop (subsX e).length)
end
theorem valX_eq (env : Env) (e : Ex) (S : List Dat) : valX env e S = if e.k = 1 then (e.lit, 0) else if e.k = 2 then ((colX e.lv e.col env).getD nullD, 0) else if e.k = 3 then callX e.op (valXs env e.kids S) else (S.headD nullD, 0) := by
  obtain ⟨k, t, nl, lit, lv, col, op, kv, sv, kids⟩ := e
  rw [valX]
theorem valXs_nil (env : Env) (S : List Dat) : valXs env [] S = [] := by rw [valXs]
theorem valXs_cons (env : Env) (e : Ex) (l : List Ex) (S : List Dat) : valXs env (e :: l) S = valX env e (S.take (subsX e).length) :: valXs env l (S.drop (subsX e).length) := by rw [valXs]
theorem valXs_length (env : Env) : ∀ (L : List Ex) (S : List Dat), (valXs env L S).length = L.length
  | [], S => by rw [valXs_nil]; rfl
  | e :: l, S => by rw [valXs_cons, List.length_cons, List.length_cons, valXs_length env l]
theorem valXs_get (env : Env) : ∀ (L : List Ex) (S : List Dat) (n : Nat) (h : n < L.length), (valXs env L S)[n]? = some (valX env L[n] ((S.drop (subsXs (L.take n)).length).take (subsX L[n]).length))
  | [], _, _, h => by simp at h
  | e :: l, S, 0, h => by
    rw [valXs_cons, List.getElem?_cons_zero, List.take_zero, subsXs_nil]
    rfl
  | e :: l, S, n + 1, h => by
    rw [valXs_cons, List.getElem?_cons_succ, valXs_get env l _ n (by simpa using h), List.take_succ_cons, subsXs_cons, List.length_append, List.drop_drop]
    rfl

/-- A value and an error come back; memory of its own alone is made. -/
def ValPost (x : Va) (w : World) (e : Ending) (w' : World) : Prop := e = .returned (.tuple #[datVal x.1, .int .i64 x.2]) ∧ Below w.heap.size w w'


theorem Blk.upto {w w' : World} {b base : Nat} {cs : Array Value} {t : TypeId} (h : Blk w b cs t) (hb : Below base w w') (hl : b < base) : Blk w' b cs t := by
  unfold Blk at *; rw [hb.block b hl]; exact h
theorem setX_13 (d : Dat) : setX 13 d = decide (d.k = 1 ∧ d.i = 0 ∧ d.s = noText) := by simp [setX]
theorem setX_14 (d : Dat) : setX 14 d = decide (d.k = 1 ∧ d.i = 1 ∧ d.s = noText) := by simp [setX]
theorem setX_other {op : Int} (d : Dat) (h13 : op ≠ 13) (h14 : op ≠ 14) : setX op d = false := by simp [setX, h13, h14]
abbrev OwnD (w : World) (base : Nat) (v : Value) (L : List Dat) : Prop := OwnG encDat 3 27 w base v L
theorem infoDat : (Tryz.prog.info? 27).map (fun i => (i.zero, i.size, i.bytes)) = some (some (.agg #[.int .i64 0, .int .i64 0, .string noText]), 3, 32) := by kernel_rfl
theorem valD_one (w : World) (b : Nat) (k i : Int) (s : ByteArray) (h : b = w.heap.size) : ValG encDat 3 (w.alloc (.cells #[.int .i64 k, .int .i64 i, .string s] 27)) (.slice (some ⟨b, 0, none⟩) 1 1) [⟨k, i, s⟩] := by
  subst h
  have hb := Blk.new w #[.int .i64 k, .int .i64 i, .string s] 27
  refine .inr ⟨w.heap.size, 0, 1, rfl, by simp [maxLen], by simp, ?_, Nat.le_refl _⟩
  intro j z hj r u hr
  match j, hj with
  | 0, hj =>
    simp only [List.getElem?_cons_zero, Option.some.injEq] at hj
    subst hj
    have h3 : r < 3 := by have := (List.getElem?_eq_some_iff.mp hr).1; simpa [encDat] using this
    rw [show 0 + 0 * 3 + r = r by omega, hb.cell]
    match r, h3 with
    | 0, _ => simpa [encDat] using hr
    | 1, _ => simpa [encDat] using hr
    | 2, _ => simpa [encDat] using hr
  | j + 1, hj => simp at hj
theorem one_dat (d : Dat) : ∀ x ∈ [d], ∀ u ∈ encDat x, u.oneCell' = true := by
  intro x hx u hu
  rw [List.mem_singleton] at hx
  subst hx
  simp only [encDat, List.mem_cons, List.not_mem_nil, or_false] at hu
  rcases hu with rfl | rfl | rfl <;> rfl
theorem refBool_f (w : World) : Calls Tryz.prog 11 #[.bool false] w fun e w' => e = .returned (.agg #[.int .i64 1, .int .i64 0, .string noText]) ∧ Below w.heap.size w w' := refBool_any false w
theorem refBool_t (w : World) : Calls Tryz.prog 11 #[.bool true] w fun e w' => e = .returned (.agg #[.int .i64 1, .int .i64 1, .string noText]) ∧ Below w.heap.size w w' := refBool_any true w
theorem take_fst {V : List Va} {n : Nat} (h : n < V.length) : (V.take (n + 1)).map Prod.fst = (V.take n).map Prod.fst ++ [V[n].1] := by
  rw [List.take_add_one, List.getElem?_eq_getElem h, List.map_append, Option.toList_some, List.map_cons, List.map_nil]


/-- Literals' numbers are within 64 bits, kids are not too many. -/
inductive ExB : Ex → Prop
  | mk (e : Ex) (hI : InI e.lit) (hn : e.kids.length ≤ 1048576) (hk : ∀ x ∈ e.kids, ExB x) : ExB e
theorem ExB.lit {e : Ex} (h : ExB e) : InI e.lit := by cases h; assumption
theorem ExB.len {e : Ex} (h : ExB e) : e.kids.length ≤ 1048576 := by cases h; assumption
theorem ExB.kid {e : Ex} (h : ExB e) : ∀ x ∈ e.kids, ExB x := by cases h; assumption

theorem nulX_in (f : Int) : InI (nulX f).1 := ⟨(by decide : (-9223372036854775808 : Int) ≤ 0), (by decide : (0 : Int) ≤ 9223372036854775807)⟩
theorem caseX_in : ∀ V : List Va, (∀ x ∈ V, InI x.1) → InI (caseX V).1
  | [], _ => by rw [caseX]; exact nulX_in _
  | [a], h => by rw [caseX]; exact h a (by simp)
  | a :: b :: l, h => by
    rw [caseX]
    split
    · exact nulX_in _
    · split
      · exact nulX_in _
      · split
        · exact h b (by simp)
        · exact caseX_in l fun x hx => h x (by simp [hx])
theorem othX_in (happ : ∀ op L, (∀ d ∈ L, InI d) → InI (triX (appR op L)).1) (op : Int) : ∀ (V : List Va) (n : Nat) (acc : List Dat), (∀ x ∈ V, InI x.1) → (∀ d ∈ acc, InI d) → InI (othX op n acc V).1
  | [], n, acc, _, ha => by
    rw [othX]
    split
    · exact nulX_in _
    · exact happ op acc ha
  | x :: l, n, acc, h, ha => by
    rw [othX]
    split
    · exact nulX_in _
    · split
      · exact h x (by simp)
      · split
        · exact h x (by simp)
        · refine othX_in happ op l (n + 1) _ (fun y hy => h y (by simp [hy])) fun d hd => ?_
          rcases List.mem_append.1 hd with hd | hd
          · exact ha d hd
          · rw [List.mem_singleton] at hd
            rw [hd]
            exact h x (by simp)
theorem colX_in {lv col : Int} {env : Env} {d : Dat} (hE : ∀ r ∈ env, ∀ d ∈ r.l, InI d) (h : colX lv col env = some d) : InI d := by
  unfold colX at h
  split at h
  · cases he : env[lv.toNat]? with
    | none => rw [he] at h; cases h
    | some r =>
      rw [he] at h
      exact hE r (List.mem_of_getElem? he) d (List.mem_of_getElem? h)
  · cases h
theorem valXs_in (env : Env) (P : Ex → Prop) (hP : ∀ x, P x → ∀ S : List Dat, (∀ d ∈ S, InI d) → InI (valX env x S).1) : ∀ (L : List Ex) (S : List Dat), (∀ x ∈ L, P x) → (∀ d ∈ S, InI d) → ∀ y ∈ valXs env L S, InI y.1
  | [], S, _, _, y, hy => by rw [valXs_nil] at hy; cases hy
  | e :: l, S, h, hS, y, hy => by
    rw [valXs_cons] at hy
    rcases List.mem_cons.1 hy with rfl | hy
    · exact hP e (h e (by simp)) _ fun d hd => hS d (List.mem_of_mem_take hd)
    · exact valXs_in env P hP l _ (fun x hx => h x (by simp [hx])) (fun d hd => hS d (List.mem_of_mem_drop hd)) y hy
theorem valX_in (happ : ∀ op L, (∀ d ∈ L, InI d) → InI (triX (appR op L)).1) {env : Env} (hE : ∀ r ∈ env, ∀ d ∈ r.l, InI d) {e : Ex} (h : ExB e) : ∀ S : List Dat, (∀ d ∈ S, InI d) → InI (valX env e S).1 := by
  induction h with
  | mk e hI hn hk ih =>
    intro S hS
    rw [valX_eq]
    split
    · exact hI
    · split
      · cases hc : colX e.lv e.col env with
        | none => exact ⟨by decide, by decide⟩
        | some d => exact colX_in hE hc
      · split
        · have hV := valXs_in env (fun x => x ∈ e.kids) (fun x hx S hS => ih x hx S hS) e.kids S (fun x hx => hx) hS
          unfold callX
          split
          · exact caseX_in _ hV
          · exact othX_in happ _ _ _ _ hV (by simp)
        · cases S with
          | nil => exact ⟨by decide, by decide⟩
          | cons d l => exact hS d (by simp)


def InT (t : Tri) : Prop := -9223372036854775808 ≤ t.2.1 ∧ t.2.1 ≤ 9223372036854775807
theorem inT_const (k i e : Int) (h : -9223372036854775808 ≤ i ∧ i ≤ 9223372036854775807) : InT (k, i, e) := h
theorem inT_zero (k e : Int) : InT (k, 0, e) := ⟨by show (-9223372036854775808 : Int) ≤ 0; decide, by show (0 : Int) ≤ 9223372036854775807; decide⟩
theorem inT_bit (k e : Int) (b : Bool) : InT (k, bitOf b, e) := by
  cases b
  · exact ⟨by show (-9223372036854775808 : Int) ≤ 0; decide, by show (0 : Int) ≤ 9223372036854775807; decide⟩
  · exact ⟨by show (-9223372036854775808 : Int) ≤ 1; decide, by show (1 : Int) ≤ 9223372036854775807; decide⟩
theorem inT_fit (k z : Int) : InT (fitT k z) := by
  unfold fitT
  refine inT_const _ _ _ ?_
  unfold fitI
  split
  · rename_i h
    exact of_decide_eq_true h
  · exact ⟨by decide, by decide⟩
theorem inT_join (k1 i1 k2 i2 st : Int) : InT (joinR k1 i1 k2 i2 st) := by
  unfold joinR
  repeat' split
  all_goals first
    | exact inT_zero _ _
    | exact inT_bit _ _ _
theorem inT_not (k i : Int) : InT (notR k i) := by
  unfold notR
  repeat' split
  all_goals first
    | exact inT_zero _ _
    | exact inT_bit _ _ _
theorem inT_len (d : Dat) (h : rightD d = true) : InT (lenR d) := by
  have hs := rightD_size d h
  have hr := runeC_le d.s 0 (Nat.zero_le _)
  unfold lenR
  split
  · exact inT_zero _ _
  · split
    · exact inT_zero _ _
    · split
      · exact inT_const _ _ _ (by omega)
      · exact inT_const _ _ _ (by omega)
theorem inT_un (op : Int) (a : Dat) (h : InI a) : InT (unR op a) := by
  unfold unR
  repeat' split
  all_goals first
    | exact inT_zero _ _
    | exact inT_fit _ _
    | exact inT_const _ _ _ h
theorem inT_two (op k u z1 z2 : Int) : InT (twoR op k u z1 z2) := by
  unfold twoR
  repeat' split
  all_goals first
    | exact inT_zero _ _
    | exact inT_fit _ _
theorem inT_bin (op : Int) (a b : Dat) : InT (binR op a b) := by
  unfold binR
  repeat' split
  all_goals first
    | exact inT_zero _ _
    | exact inT_two _ _ _ _ _
theorem inT_rel (op : Int) (a b : Dat) : InT (relR op a b) := by
  unfold relR
  repeat' split
  all_goals first
    | exact inT_zero _ _
    | exact inT_bit _ _ _
theorem inT_app (op : Int) (L : List Dat) (h : ∀ d ∈ L, InI d) : InT (appR op L) := by
  unfold appR
  split
  · exact inT_zero _ _
  · rename_i hn
    have hr : L.all rightD = true := by
      cases ha : L.all rightD
      · exact absurd (.inr (.inr ha)) hn
      · rfl
    split
    · rename_i a
      have ha : rightD a = true := by simpa using hr
      unfold oneR
      repeat' split
      all_goals first
        | exact inT_bit _ _ _
        | exact inT_not _ _
        | exact inT_len _ ha
        | exact inT_un _ _ (h a (by simp))
    · unfold bothR
      repeat' split
      all_goals first
        | exact inT_join _ _ _ _ _
        | exact inT_rel _ _ _
        | exact inT_bin _ _ _
    · exact inT_zero _ _
theorem app_in (op : Int) (L : List Dat) (h : ∀ d ∈ L, InI d) : InI (triX (appR op L)).1 := inT_app op L h


/-- Value. -/
def valueX (env : Env) (e : Ex) (S : List Dat) : Va := if rightX env e = false ∨ (subsX e).length ≠ S.length ∨ S.all rightD = false then nulX 1 else valX env e S


end Go.Proofs.YtippffjhkinfoaaGreatDoor

namespace Go.Proofs.YtippffjhkinfoaaGreatDoor
open Go.RowKit

/-- A world in which all that W has is as it was. -/
structure Kept (W : World) where
  w : World
  h : Below W.heap.size W w

instance keptNonempty (W : World) : Nonempty (Kept W) := ⟨⟨W, Below.refl _ _⟩⟩

theorem wp_region_kept {P : Program} {id : Nat} {Q : Exit → Act → World → Prop} {a : Act} {W : World} {l : List Oper} (hm : P.follows .mixedOrders = true) (hB : Region.lexB .any l.toArray = true)
    (h : wpQuiet P l.toArray (fun w' => ∃ n : Kept W, w' = n.w) (fun a' => ∀ w', (∃ n : Kept W, w' = n.w) → Q .normal a' w') l a) : (Code.region id l.toArray true).wp P Q a W :=
  wp_region_quiet (C := fun w' => ∃ n : Kept W, w' = n.w) hm hB ⟨⟨W.drew, (Below.refl _ _).drew⟩, rfl⟩ (by simpa using h)

theorem Calls.kept {P : Program} {f : FuncId} {args : Array Value} {W : World} {n : Kept W} {v : Value}
    (h : Calls P f args n.w fun e w' => e = .returned v ∧ Below n.w.heap.size n.w w') : Calls P f args n.w fun e w'' => e = .returned v ∧ ∃ m : Kept W, w'' = m.w :=
  h.mono fun _ w' ⟨he, hb⟩ => ⟨he, ⟨w', n.h.trans (hb.mono n.h.size)⟩, rfl⟩

theorem Kept.cell {W : World} {a : Addr} {v : Value} (h : W.cell? a = some v) (n : Kept W) : n.w.cell? a = some v := (n.h.cell (World.block_lt_of_cell? _ _ h)).trans h

end Go.Proofs.YtippffjhkinfoaaGreatDoor
