/-
  EvalScopes: an expression's value hangs on the columns that it names alone; plainly.
  The law's names: into the map go the columns that an expression names.
  Rows that the law makes: appending to lists of rows and of values.
  EvalScopes: the law's walk.
  EvalScopes: the law returns true.
  EvalScopes, the second form: for every expression, rows, further row and values that are together of bulk at most 1048576 the law returns true, and its arguments read as they did; the tables of unicode/utf8 that the row lists start as the program's text lays them (the card ties them).
-/
import Derived.Test.YtippffjhkinfoaaGreatDoorEvEnd
import Derived.WideKeyPair
import Derived.Maps.Views
import Derived.Maps.OwnOps
import Derived.Deep.DeepHandedRow
namespace Go.Proofs.YtippffjhkinfoaaGreatDoor
open Go.RowKit

mutual
/-- The columns that an expression names. -/
def colsX : Ex → List (Int × Int)
  | ⟨k, _, _, _, lv, col, _, _, _, kids⟩ => if k = 2 then [(lv, col)] else if k = 3 then colsXs kids else []
def colsXs : List Ex → List (Int × Int)
  | [] => []
  | e :: l => colsX e ++ colsXs l
end
theorem colsX_eq (e : Ex) : colsX e = if e.k = 2 then [(e.lv, e.col)] else if e.k = 3 then colsXs e.kids else [] := by
  obtain ⟨k, t, nl, lit, lv, col, op, kv, sv, kids⟩ := e
  rw [colsX]
theorem colsXs_nil : colsXs [] = [] := by rw [colsXs]
theorem colsXs_cons (e : Ex) (l : List Ex) : colsXs (e :: l) = colsX e ++ colsXs l := by rw [colsXs]
theorem colsXs_mem {x : Ex} : ∀ {L : List Ex}, x ∈ L → ∀ p ∈ colsX x, p ∈ colsXs L
  | [], h, _, _ => by cases h
  | e :: l, h, p, hp => by
    rw [colsXs_cons]
    rcases List.mem_cons.1 h with rfl | h
    · exact List.mem_append_left _ hp
    · exact List.mem_append_right _ (colsXs_mem h p hp)
theorem colsXs_take : ∀ (L : List Ex) (j : Nat) (h : j < L.length), colsXs (L.take (j + 1)) = colsXs (L.take j) ++ colsX L[j]
  | [], j, h => by simp at h
  | e :: l, 0, h => by rw [List.take_zero, colsXs_nil, List.take_succ_cons, List.take_zero, colsXs_cons, colsXs_nil, List.append_nil]; rfl
  | e :: l, j + 1, h => by
    rw [List.take_succ_cons, List.take_succ_cons, colsXs_cons, colsXs_cons, colsXs_take l j (by simpa using h), List.append_assoc]
    rfl

/-- What stands in a column stands there in other rows, too. -/
def AgE (env env' : Env) (p : Int × Int) : Prop := ∀ d, colX p.1 p.2 env = some d → colX p.1 p.2 env' = some d
theorem valXs_same (env env' : Env) : ∀ (L : List Ex) (S : List Dat), (∀ x ∈ L, ∀ S, valX env' x S = valX env x S) → valXs env' L S = valXs env L S
  | [], S, _ => by rw [valXs_nil, valXs_nil]
  | e :: l, S, h => by rw [valXs_cons, valXs_cons, h e (by simp), valXs_same env env' l _ (fun x hx => h x (by simp [hx]))]
theorem agree {env env' : Env} {e : Ex} (h : ExB e) : (∀ p ∈ colsX e, AgE env env' p) → rightX env e = true → rightX env' e = true ∧ ∀ S, valX env' e S = valX env e S := by
  induction h with
  | mk e hI hn hk ih =>
    intro ha hr
    rw [rightX_eq] at hr
    rw [rightX_eq]
    by_cases h1 : e.k = 1
    · rw [if_pos h1] at hr ⊢
      refine ⟨hr, fun S => ?_⟩
      rw [valX_eq, valX_eq, if_pos h1, if_pos h1]
    · rw [if_neg h1] at hr ⊢
      by_cases h2 : e.k = 2
      · rw [if_pos h2] at hr ⊢
        have hc := ha (e.lv, e.col) (by rw [colsX_eq, if_pos h2]; simp)
        cases hd : colX e.lv e.col env with
        | none => rw [hd] at hr; cases hr
        | some d =>
          have h4 : colX e.lv e.col env' = some d := hc d hd
          rw [hd] at hr
          rw [h4]
          refine ⟨hr, fun S => ?_⟩
          rw [valX_eq, valX_eq, if_neg h1, if_neg h1, if_pos h2, if_pos h2, hd, h4]
      · rw [if_neg h2] at hr ⊢
        by_cases h3 : e.k = 3
        · rw [if_pos h3, Bool.and_eq_true, rightXs_all, List.all_eq_true] at hr
          have key := fun x hx => ih x hx (fun p hp => ha p (by rw [colsX_eq, if_neg h2, if_pos h3]; exact colsXs_mem hx p hp)) (hr.1 x hx)
          rw [if_pos h3, Bool.and_eq_true, rightXs_all, List.all_eq_true]
          refine ⟨⟨fun x hx => (key x hx).1, hr.2⟩, fun S => ?_⟩
          rw [valX_eq, valX_eq, if_neg h1, if_neg h1, if_neg h2, if_neg h2, if_pos h3, if_pos h3, valXs_same env env' e.kids S (fun x hx => (key x hx).2)]
        · rw [if_neg h3] at hr ⊢
          refine ⟨hr, fun S => ?_⟩
          rw [valX_eq, valX_eq, if_neg h1, if_neg h1, if_neg h2, if_neg h2, if_neg h3, if_neg h3]
theorem value_same {env env' : Env} {e : Ex} (h : ExB e) (ha : ∀ p ∈ colsX e, AgE env env' p) (S : List Dat) (hf : (valueX env e S).2 ≠ 1) : valueX env' e S = valueX env e S := by
  have hr : rightX env e = true := by
    cases hr : rightX env e
    · exact absurd (by unfold valueX; rw [if_pos (.inl hr)]; rfl) hf
    · rfl
  obtain ⟨h1, h2⟩ := agree h ha hr
  unfold valueX
  rw [h1, hr, h2 S]
theorem errV_value (env : Env) {e : Ex} (h : ExB e) (S : List Dat) : ErrV (valueX env e S) := by
  unfold valueX
  split
  · exact errV_nul 1
  · exact errV_val env h S

theorem colX_wide {lv col : Int} {env : Env} (r : Rw) : AgE env (env ++ [r]) (lv, col) := by
  intro d h
  simp only at h ⊢
  unfold colX at h ⊢
  split at h
  · rename_i hc
    rw [if_pos hc]
    obtain ⟨x, hx, hd⟩ := Option.bind_eq_some_iff.1 h
    have hl := (List.getElem?_eq_some_iff.mp hx).1
    rw [List.getElem?_append_left hl, hx]
    exact hd
  · cases h

/-- Another value. -/
abbrev otherD : Dat := ⟨2, 77, noText⟩
/-- A row's values, but for those at places that u leaves out. -/
def RowM (u : Nat → Bool) (l P : List Dat) : Prop := ∀ i d, P[i]? = some d → ∃ d0, l[i]? = some d0 ∧ d = if u i then d0 else otherD
/-- Rows of scopes, each so. -/
def EnvM (u : Nat → Nat → Bool) (env env' : Env) : Prop := ∀ i r', env'[i]? = some r' → ∃ r, env[i]? = some r ∧ r'.l.length = r.l.length ∧ RowM (u i) r.l r'.l
theorem RowM.nil (u : Nat → Bool) (l : List Dat) : RowM u l [] := fun i d h => by simp at h
theorem RowM.snoc {u : Nat → Bool} {l P : List Dat} (h : RowM u l P) (hl : P.length < l.length) : RowM u l (P ++ [if u P.length then l[P.length] else otherD]) := by
  intro i d hi
  by_cases hlt : i < P.length
  · rw [List.getElem?_append_left hlt] at hi
    exact h i d hi
  · have h1 := (List.getElem?_eq_some_iff.mp hi).1
    rw [List.length_append, List.length_singleton] at h1
    obtain rfl : i = P.length := by omega
    rw [List.getElem?_append_right (Nat.le_refl _), Nat.sub_self, List.getElem?_cons_zero, Option.some.injEq] at hi
    exact ⟨l[P.length], List.getElem?_eq_getElem hl, hi.symm⟩
theorem EnvM.nil (u : Nat → Nat → Bool) (env : Env) : EnvM u env [] := fun i d h => by simp at h
theorem EnvM.snoc {u : Nat → Nat → Bool} {env P : Env} (h : EnvM u env P) (hl : P.length < env.length) {r : Rw} (h1 : r.l.length = (env[P.length]).l.length) (h2 : RowM (u P.length) (env[P.length]).l r.l) : EnvM u env (P ++ [r]) := by
  intro i d hi
  by_cases hlt : i < P.length
  · rw [List.getElem?_append_left hlt] at hi
    exact h i d hi
  · have h3 := (List.getElem?_eq_some_iff.mp hi).1
    rw [List.length_append, List.length_singleton] at h3
    obtain rfl : i = P.length := by omega
    rw [List.getElem?_append_right (Nat.le_refl _), Nat.sub_self, List.getElem?_cons_zero, Option.some.injEq] at hi
    subst hi
    exact ⟨_, List.getElem?_eq_getElem hl, h1, h2⟩
theorem colX_mask {u : Nat → Nat → Bool} {env env' : Env} (h : EnvM u env env') (hl : env'.length = env.length) {lv col : Int} (hu : u lv.toNat col.toNat = true) : AgE env env' (lv, col) := by
  intro d h1
  simp only at h1 ⊢
  unfold colX at h1 ⊢
  split at h1
  · rename_i hc
    rw [if_pos hc]
    obtain ⟨x, hx, hd⟩ := Option.bind_eq_some_iff.1 h1
    have hl1 := (List.getElem?_eq_some_iff.mp hx).1
    have e1 := List.getElem?_eq_getElem (l := env') (i := lv.toNat) (by omega)
    obtain ⟨r, hr, hr1, hr2⟩ := h _ _ e1
    rw [hx, Option.some.injEq] at hr
    subst hr
    have hl2 := (List.getElem?_eq_some_iff.mp hd).1
    have e2 := List.getElem?_eq_getElem (l := (env'[lv.toNat]'(by omega)).l) (i := col.toNat) (by omega)
    obtain ⟨d0, hd0, hd1⟩ := hr2 _ _ e2
    rw [hd, Option.some.injEq] at hd0
    rw [e1, Option.bind_some, e2, hd1, if_pos hu, hd0]
  · cases h1

end Go.Proofs.YtippffjhkinfoaaGreatDoor

namespace Go.Proofs.YtippffjhkinfoaaGreatDoor
open Go.RowKit Go.Maps

theorem arrK : WideMaps.ArrKey Tryz.prog 43 3 2 := ⟨Tryz.underlying43, by kernel_rfl, by kernel_rfl, by kernel_rfl⟩
theorem lawK : Keyed Tryz.prog 43 := Keyed.of_law (WideMaps.ArrKey.law arrK)
theorem sizK : ∃ m, Tryz.prog.types.size = m + 1 := by
  have h : 1 ≤ Tryz.prog.types.size := of_decide_eq_true (by kernel_rfl)
  exact ⟨_, (Nat.sub_add_cancel h).symm⟩
theorem zeroI (w : World) : (zeroValue 3).run Tryz.prog w = .ok (.int .i64 0) w := by kernel_rfl
/-- What a column reads as among the map's keys. -/
def keyL (p : Int × Int) : Lit := .string (keyBytes [.int .i64 p.1, .int .i64 p.2])
def WfP (p : Int × Int) : Prop := (Lit.int .i64 p.1).wf = true ∧ (Lit.int .i64 p.2).wf = true
theorem keyL_of {p : Int × Int} (h : WfP p) : keyOf Tryz.prog 43 (.agg #[.int .i64 p.1, .int .i64 p.2]) = some (keyL p) := WideMaps.keyOf_pair arrK Tryz.underlying3 sizK h.1 h.2
theorem keyL_inj {p q : Int × Int} (hp : WfP p) (hq : WfP q) (h : keyL p = keyL q) : p = q := by
  have e := lawK.inj (keyL_of hp) (by rw [h]; exact keyL_of hq)
  obtain ⟨a, b⟩ := p
  obtain ⟨c, d⟩ := q
  simpa using e
/-- The map with some columns in it. -/
def putAll (D : DataW Unit) (C : List (Int × Int)) : DataW Unit := C.foldl (fun m p => m.put (keyL p) (.lit (.int .i64 1))) D
theorem putAll_app (D : DataW Unit) (C E : List (Int × Int)) : putAll D (C ++ E) = putAll (putAll D C) E := List.foldl_append
theorem at_putAll {q : Int × Int} (hq : WfP q) (z : DataW Unit) : ∀ (C : List (Int × Int)) (D : DataW Unit), (∀ p ∈ C, WfP p) → IsMap D → (putAll D C).atKey (keyL q) z = if q ∈ C then .lit (.int .i64 1) else D.atKey (keyL q) z
  | [], D, _, _ => by rw [if_neg (by simp)]; rfl
  | p :: C, D, hC, hD => by
    show (putAll (D.put (keyL p) (.lit (.int .i64 1))) C).atKey (keyL q) z = _
    rw [at_putAll hq z C _ (fun p hp => hC p (by simp [hp])) (hD.put _ _)]
    by_cases h : q ∈ C
    · rw [if_pos h, if_pos (by simp [h])]
    · rw [if_neg h]
      by_cases e : q = p
      · rw [if_pos (by simp [e]), e]
        exact atKey_put_same hD (lawK.key (keyL_of (hC p (by simp)))) _ _
      · rw [if_neg (by simp [h, e])]
        exact atKey_put_other (fun h => e (keyL_inj hq (hC p (by simp)) h)) _ _

/-- A map of the call's own, with columns for keys. -/
abbrev OwnK (w : World) (b n : Nat) (D : DataW Unit) : Prop := w.ownsMap Tryz.prog 43 (plainElem Tryz.prog 3) b n D
def NamesPost (b n : Nat) (D : DataW Unit) (C : List (Int × Int)) (w : World) (e : Ending) (w' : World) : Prop :=
  e = .returned (.tuple #[]) ∧ OwnK w' b (n + C.length) (putAll D C) ∧ w.grownBy w' (some b)
theorem ExI.kid {e : Ex} (h : ExI e) : ∀ x ∈ e.kids, ExI x := by cases h; assumption
theorem ExI.wf {e : Ex} (h : ExI e) : WfP (e.lv, e.col) := by cases h; assumption

set_option maxRecDepth 100000 in
set_option maxHeartbeats 8000000 in
theorem names_else (k t : Int) (nl : Bool) (lk li : Int) (ls : ByteArray) (lv col xo : Int) (Ak As : Option Addr) (nk ck ns cs : Nat) (w : World) (b n : Nat) (D : DataW Unit) (h2 : k ≠ 2) (h3 : k ≠ 3) (hown : OwnK w b n D) :
    Calls Tryz.prog 12 #[.agg #[.int .i64 k, .int .i64 t, .bool nl, .int .i64 lk, .int .i64 li, .string ls, .int .i64 lv, .int .i64 col, .int .i64 xo, .slice Ak nk ck, .slice As ns cs], .map (some b)] w (NamesPost b n D [] w) := by
  have e2 : (k == 2) = false := beq_eq_false_iff_ne.2 h2
  have e3 : (k == 3) = false := beq_eq_false_iff_ne.2 h3
  go_enter Tryz.func12, Tryz.ntmps12
  go_wp2_with fail
  exact bodyPost_ret (v := .tuple #[]) (by simp [results, Tryz.results12, go_sem]) rfl ⟨rfl, hown.alloc _, World.grownBy_alloc _ _ _⟩

set_option maxRecDepth 100000 in
set_option maxHeartbeats 8000000 in
theorem names_col (t : Int) (nl : Bool) (lk li : Int) (ls : ByteArray) (lv col xo : Int) (Ak As : Option Addr) (nk ck ns cs : Nat) (w : World) (b n : Nat) (D : DataW Unit) (hn : n < maxLen) (hw : WfP (lv, col)) (hown : OwnK w b n D) :
    Calls Tryz.prog 12 #[.agg #[.int .i64 2, .int .i64 t, .bool nl, .int .i64 lk, .int .i64 li, .string ls, .int .i64 lv, .int .i64 col, .int .i64 xo, .slice Ak nk ck, .slice As ns cs], .map (some b)] w (NamesPost b n D [(lv, col)] w) := by
  have hk := keyL_of hw
  have hb := hown.alloc (.cells #[.int .i64 2, .int .i64 t, .bool nl, .int .i64 lk, .int .i64 li, .string ls, .int .i64 lv, .int .i64 col, .int .i64 xo, .slice Ak nk ck, .slice As ns cs] 30)
  have hlt := hown.lt
  have hne : w.heap.size ≠ b := by omega
  go_enter Tryz.func12, Tryz.ntmps12
  go_wp2_with (at_mapUpdate; refine wpList_mapUpdate_own _ rfl _ _ _ 41 rfl 43 3 lawK Tryz.underlying41 _ b n _ rfl hb hn _ _ _ rfl rfl hk _ [] (plainElem_int Tryz.underlying3 (by decide)) ?_; intro w1 hown1 hg1; have bX := (Blk.new w #[.int .i64 2, .int .i64 t, .bool nl, .int .i64 lk, .int .i64 li, .string ls, .int .i64 lv, .int .i64 col, .int .i64 xo, .slice Ak nk ck, .slice As ns cs] 30); have bX1 : Blk w1 w.heap.size #[.int .i64 2, .int .i64 t, .bool nl, .int .i64 lk, .int .i64 li, .string ls, .int .i64 lv, .int .i64 col, .int .i64 xo, .slice Ak nk ck, .slice As ns cs] 30 := (by unfold Blk at *; rw [hg1.block _ (by simp) (by simp; exact hne)]; exact bX); have y0 := bX1.cell 0; simp only [List.getElem?_toArray, List.getElem?_cons_zero] at y0)
  exact bodyPost_ret (v := .tuple #[]) (by simp [results, Tryz.results12, go_sem]) rfl ⟨rfl, hown1, (World.grownBy_alloc w _ _).trans hg1⟩

set_option maxRecDepth 100000 in
set_option maxHeartbeats 8000000 in
theorem names_call {w0 : World} (t : Int) (nl : Bool) (lk li : Int) (ls : ByteArray) (lv col xo : Int) (Ak As : Option Addr) (ck ns cs : Nat) (w : World) (b n : Nat) (D : DataW Unit) (L : List Ex) (hv : ExsV w0 (.slice Ak L.length ck) L) (hx : ∀ x ∈ L, SliceV x.kv ∧ SliceV x.sv) (hb0 : Below w0.heap.size w0 w) (hbb : w0.heap.size ≤ b) (hn : n + (colsXs L).length ≤ 2097152) (hown : OwnK w b n D)
    (IH : Hid (∀ x ∈ L, ∀ (w' : World) (n' : Nat) (D' : DataW Unit), Below w0.heap.size w0 w' → OwnK w' b n' D' → n' + (colsX x).length ≤ 2097152 → Calls Tryz.prog 12 #[exVal x, .map (some b)] w' (NamesPost b n' D' (colsX x) w'))) :
    Calls Tryz.prog 12 #[.agg #[.int .i64 3, .int .i64 t, .bool nl, .int .i64 lk, .int .i64 li, .string ls, .int .i64 lv, .int .i64 col, .int .i64 xo, .slice Ak L.length ck, .slice As ns cs], .map (some b)] w (NamesPost b n D (colsXs L) w) := by
  have HV := Lib.hid hv
  have HX := Lib.hid hx
  have hm0 : L.length ≤ maxLen := by obtain ⟨A, c, _, _, h⟩ := hv.slice; exact h
  unfold maxLen at hm0
  have hb1 := hb0.alloc hb0.size (.cells #[.int .i64 3, .int .i64 t, .bool nl, .int .i64 lk, .int .i64 li, .string ls, .int .i64 lv, .int .i64 col, .int .i64 xo, .slice Ak L.length ck, .slice As ns cs] 30)
  have ho1 := hown.alloc (.cells #[.int .i64 3, .int .i64 t, .bool nl, .int .i64 lk, .int .i64 li, .string ls, .int .i64 lv, .int .i64 col, .int .i64 xo, .slice Ak L.length ck, .slice As ns cs] 30)
  have hg1 := World.grownBy_alloc w (.cells #[.int .i64 3, .int .i64 t, .bool nl, .int .i64 lk, .int .i64 li, .string ls, .int .i64 lv, .int .i64 col, .int .i64 xo, .slice Ak L.length ck, .slice As ns cs] 30) (some b)
  clear hv hx hown
  go_enter Tryz.func12, Tryz.ntmps12
  go_wp2_with fail
  go_loopw [21] (fun i wr => ∃ j : Nat, i = .int .i64 j ∧ j ≤ L.length ∧ Below w0.heap.size w0 wr ∧ w.grownBy wr (some b) ∧ Hid (OwnK wr b (n + (colsXs (L.take j)).length) (putAll D (colsXs (L.take j))))) (fun i _ => L.length - (intOf i).toNat)
  case atStart => exact ⟨0, rfl, Nat.zero_le _, hb1, hg1, by rw [List.take_zero, colsXs_nil]; exact Lib.hid ho1⟩
  case round =>
    clear hb1 ho1 hg1
    obtain ⟨j, rfl, hj, hb, hg, HO⟩ := hrel
    by_cases hlt : j < L.length
    · rcases HV.out with ⟨_, h0⟩ | ⟨bb, off, c', e, _, hbl, hat, _⟩
      · rw [h0] at hlt; simp at hlt
      · injection e with e1 e2 e3
        subst e1 e3
        obtain ⟨x0, x1, x2, x3, x4, x5, x6, x7, x8, x9, x10⟩ := (hat.block (hb.block bb hbl)).ex j hlt
        have hmem := List.getElem_mem hlt
        have HI1 := IH.out L[j] hmem
        obtain ⟨⟨Ax, nx, cx, hkv⟩, ⟨Bx, mx, dx, hsv⟩⟩ := HX.out L[j] hmem
        have hj9 : (j : Int) + 1 ≤ 9223372036854775807 := by omega
        have hlt' : (j : Int) < L.length := by omega
        have hT := colsXs_take L j hlt
        have hle : (colsXs (L.take (j + 1))).length ≤ (colsXs L).length := by
          conv => rhs; rw [← List.take_append_drop (j + 1) L]
          have key : ∀ A B : List Ex, colsXs (A ++ B) = colsXs A ++ colsXs B := by
            intro A B
            induction A with
            | nil => rw [colsXs_nil]; rfl
            | cons a l ih => rw [List.cons_append, colsXs_cons, colsXs_cons, ih, List.append_assoc]
          rw [key, List.length_append]
          omega
        rw [hT, List.length_append] at hle
        have HT := Lib.hid hT
        clear hat hmem hT hj
        revert HT HI1 hkv hsv x0 x1 x2 x3 x4 x5 x6 x7 x8 x9 x10 hle
        generalize L[j] = x
        intro x0 x1 x2 x3 x4 x5 x6 x7 x8 x9 x10 HI1 hkv hsv hle HT
        rw [hkv] at x9
        rw [hsv] at x10
        have HI2 : Hid (∀ (w' : World) (n' : Nat) (D' : DataW Unit), Below w0.heap.size w0 w' → OwnK w' b n' D' → n' + (colsX x).length ≤ 2097152 → Calls Tryz.prog 12 #[.agg #[.int .i64 x.k, .int .i64 x.t, .bool x.nl, .int .i64 x.lit.k, .int .i64 x.lit.i, .string x.lit.s, .int .i64 x.lv, .int .i64 x.col, .int .i64 x.op, .slice Ax nx cx, .slice Bx mx dx], .map (some b)] w' (NamesPost b n' D' (colsX x) w')) := by
          rw [show exVal x = .agg #[.int .i64 x.k, .int .i64 x.t, .bool x.nl, .int .i64 x.lit.k, .int .i64 x.lit.i, .string x.lit.s, .int .i64 x.lv, .int .i64 x.col, .int .i64 x.op, .slice Ax nx cx, .slice Bx mx dx] by rw [← hkv, ← hsv]] at HI1
          exact HI1
        have hbo := hb.alloc hb.size (.cells #[.int .i64 x.k, .int .i64 x.t, .bool x.nl, .int .i64 x.lit.k, .int .i64 x.lit.i, .string x.lit.s, .int .i64 x.lv, .int .i64 x.col, .int .i64 x.op, .slice Ax nx cx, .slice Bx mx dx] 30)
        have hgo := hg.trans (World.grownBy_alloc wr (.cells #[.int .i64 x.k, .int .i64 x.t, .bool x.nl, .int .i64 x.lit.k, .int .i64 x.lit.i, .string x.lit.s, .int .i64 x.lv, .int .i64 x.col, .int .i64 x.op, .slice Ax nx cx, .slice Bx mx dx] 30) (some b))
        have hoo := Lib.hid (HO.out.alloc (.cells #[.int .i64 x.k, .int .i64 x.t, .bool x.nl, .int .i64 x.lit.k, .int .i64 x.lit.i, .string x.lit.s, .int .i64 x.lv, .int .i64 x.col, .int .i64 x.op, .slice Ax nx cx, .slice Bx mx dx] 30))
        clear HI1 hkv hsv HO
        go_wp2_with (go_at_call 12; (with_reducible refine (HI2.out _ _ _ hbo hoo.out (by omega)).mono ?_); rintro e w7 ⟨rfl, ho7, hg7⟩)
        have h9 := hbo.grown hg7 hbo.size (fun k hk => by injection hk with hk; omega)
        refine ⟨⟨j + 1, by go_num, hlt, h9, hgo.trans hg7, ?_⟩, ?_⟩
        · rw [HT.out, putAll_app, List.length_append, ← Nat.add_assoc]
          exact Lib.hid ho7
        · simp only [intOf]
          omega
    · have hlt' : decide ((j : Int) < (L.length : Int)) = false := decide_eq_false (by omega)
      obtain rfl : j = L.length := by omega
      rw [List.take_of_length_le (Nat.le_refl _)] at HO
      go_wp2_with fail
      exact bodyPost_ret (v := .tuple #[]) (by simp [results, Tryz.results12, go_sem]) rfl ⟨rfl, HO.out, hg⟩

theorem names_any {w0 : World} {b : Nat} (hbb : w0.heap.size ≤ b) {e : Ex} (h : ExOk w0 e) : ExI e → ∀ (w : World) (n : Nat) (D : DataW Unit), Below w0.heap.size w0 w → OwnK w b n D → n + (colsX e).length ≤ 2097152 → Calls Tryz.prog 12 #[exVal e, .map (some b)] w (NamesPost b n D (colsX e) w) := by
  induction h with
  | mk e hv hs hk ih =>
    intro hI w n D hb hown hn
    rw [colsX_eq] at hn ⊢
    have hwf := hI.wf
    have hkid := hI.kid
    obtain ⟨Ak, ck, hkv, _, _⟩ := hv.slice
    obtain ⟨As, ns, cs, hsv⟩ := hs
    obtain ⟨k, t, nl, ⟨lk, li, ls⟩, lv, col, xo, kv, sv, kids⟩ := e
    simp only at hkv hsv hv hk ih hwf hkid hn ⊢
    subst hkv hsv
    by_cases h2 : k = 2
    · subst h2
      rw [if_pos rfl] at hn ⊢
      exact names_col t nl lk li ls lv col xo Ak As kids.length ck ns cs w b n D (by unfold maxLen; simp at hn; omega) hwf hown
    · rw [if_neg h2] at hn ⊢
      by_cases h3 : k = 3
      · subst h3
        rw [if_pos rfl] at hn ⊢
        exact names_call t nl lk li ls lv col xo Ak As ck ns cs w b n D kids hv (fun x hx => ⟨by obtain ⟨A, c, e, _, _⟩ := (hk x hx).kv.slice; exact ⟨_, _, _, e⟩, (hk x hx).sv⟩) hb hbb hn hown (fun x hx w' n' D' hb' ho' hn' => ih x hx (hkid x hx) w' n' D' hb' ho' hn')
      · rw [if_neg h3]
        exact names_else k t nl lk li ls lv col xo Ak As kids.length ck ns cs w b n D h2 h3 hown

end Go.Proofs.YtippffjhkinfoaaGreatDoor

namespace Go.Proofs.YtippffjhkinfoaaGreatDoor
open Go.RowKit Go.Maps

theorem run_append_of_empty {P : Program} (w : World) (base : Nat) (t ty e : TypeId) (i : TypeInfo) (size : Nat) (ht : P.underlying t = some (.slice e)) (hi : P.info? e = some i)
    (v : Value) (n : Nat) (xs : List Value) (hown : w.ownsRow base e size v n xs) (A : Option Addr) : (Builtin.append_ #[t, t] ty #[v, .slice A 0 0]).run P w = .ok v w := by
  cases A with
  | none => exact run_append_of_nil' w base t ty e i size ht hi v n xs hown 0
  | some a =>
    have h0 : (loadCells a 0).run P w = .ok #[] w := by first | rfl | simp [loadCells] | (unfold loadCells; simp)
    rcases hown.2 with ⟨rfl, rfl⟩ | ⟨g, cap, cur, rfl, _, _, hnc, _⟩
    · simp [Builtin.append_, run_underlying ht, sizeOf, typeInfo, hi, Builtin.lenOf, Builtin.firstCells, h0]
    · simp [Builtin.append_, run_underlying ht, sizeOf, typeInfo, hi, Builtin.lenOf, Builtin.firstCells, hnc, storeCells, h0]

section
variable {α : Type} {enc : α → List Value} {k : Nat}
/-- Appending a list that came in. -/
theorem wpList_append_w {P : Program} (hk : ∀ x, (enc x).length = k) (hpos : 0 < k) (t e : TypeId) (i : TypeInfo) (z : Value) (bytes : Nat) (ht : P.underlying t = some (.slice e)) (hi : P.info? e = some i) (hz : i.zero = some z) (hsize : i.size = k) (hby : i.bytes = bytes) (hzs : z.cells.size = k)
    {ops : Array Oper} {rest : List Oper} {o : Oper} {a : Act} {Q : Exit → Act → World → Prop} (w : World) (hgd : o.guard = none) (s x : Operand)
    (ho : o.op = .call { callee := .builtin .append, args := #[s, x], argTypes := #[t, t] })
    (base : Nat) (v vx : Value) (l m : List α) (hs : a.eval s = v) (hx : a.eval x = vx) (hown : OwnG enc k e w base v l) (hr : ValW enc k w vx m) (h1 : ∀ x ∈ m, ∀ u ∈ enc x, u.oneCell' = true)
    (hm : l.length + m.length ≤ maxLen) (hlen : (l.length + m.length) * bytes ≤ 140737488355328) (hbase : base ≤ w.heap.size)
    (h : ∀ v' w', OwnG enc k e w' base v' (l ++ m) → w.grownBy w' v.ownBlock → wpList P ops Q rest (a.put o.dst v') w') : wpList P ops Q (o :: rest) a w := by
  have hrun : ∃ v' w', (Builtin.append_ #[t, t] o.type #[v, vx]).run P w = .ok v' w' ∧ OwnG enc k e w' base v' (l ++ m) ∧ w.grownBy w' v.ownBlock := by
    rcases hr with ⟨⟨A, rfl⟩, rfl⟩ | hr
    · exact ⟨v, w, run_append_of_empty w base t o.type e i k ht hi v l.length _ hown A, by simpa using hown, ⟨rfl, rfl, rfl, Nat.le_refl _, fun _ _ _ => rfl⟩⟩
    · exact run_append_g hk hpos t e i z bytes ht hi hz hsize hby hzs w o.type base v vx l m hown (.inr hr) h1 hm hlen hbase
  refine wpList_plain hgd fun _ hK => ?_
  obtain ⟨v', w', hrun, h2, h3⟩ := hrun
  unfold Oper.wp execOp
  simp only [ho, resolve, invoke, builtin, Sem.run_bind, Sem.run_pure, Result.andThen_ok, List.map_toArray, List.map_cons, List.map_nil, hs, hx, hrun]
  exact hK _ _ (h v' w' h2 h3)
end

/-- Two lists of the call's own with elements of two types lie in two blocks. -/
theorem own_apart {α β : Type} {enc : α → List Value} {enc' : β → List Value} {k k' : Nat} {e e' : TypeId} {w : World} {b b' : Nat} {v v' : Value} {l : List α} {l' : List β} (h : OwnG enc k e w b v l) (h' : OwnG enc' k' e' w b' v' l') (hne : e ≠ e') : v.ownBlock = none ∨ v.ownBlock ≠ v'.ownBlock := by
  rcases h.shape with ⟨rfl, _⟩ | ⟨g, cap, rfl, _, _, _, _, _, cur, hg⟩
  · exact .inl rfl
  · refine .inr fun he => ?_
    rcases h'.shape with ⟨rfl, _⟩ | ⟨g', cap', rfl, _, _, _, _, _, cur', hg'⟩
    · cases he
    · have e1 : g = g' := by simpa [Value.ownBlock] using he
      subst e1
      rw [hg] at hg'
      simp at hg'
      exact hne hg'.2

theorem infoRow : (Tryz.prog.info? 40).map (fun i => (i.zero, i.size, i.bytes)) = some (some (.slice none 0 0), 1, 24) := by kernel_rfl
theorem one_rw {L : List Rw} (h : ∀ r ∈ L, ∃ A n c, r.v = .slice A n c) : ∀ x ∈ L, ∀ u ∈ encRw x, u.oneCell' = true := by
  intro x hx u hu
  obtain ⟨A, n, c, e⟩ := h x hx
  unfold encRw at hu
  rw [List.mem_singleton] at hu
  rw [hu, e]
  rfl
theorem valR_one (w : World) (b : Nat) (v : Value) (l : List Dat) (h : b = w.heap.size) : ValG encRw 1 (w.alloc (.cells #[v] 40)) (.slice (some ⟨b, 0, none⟩) 1 1) [⟨v, l⟩] := by
  subst h
  have hb := Blk.new w #[v] 40
  refine .inr ⟨w.heap.size, 0, 1, rfl, by simp [maxLen], by simp, ?_, Nat.le_refl _⟩
  intro j z hj r u hr
  match j, hj with
  | 0, hj =>
    simp only [List.getElem?_cons_zero, Option.some.injEq] at hj
    subst hj
    have h3 : r < 1 := by have := (List.getElem?_eq_some_iff.mp hr).1; simpa [encRw] using this
    obtain rfl : r = 0 := by omega
    rw [show 0 + 0 * 1 + 0 = 0 from rfl, hb.cell]
    simpa [encRw] using hr
  | j + 1, hj => simp at hj

/-- The rows that the law has made. -/
structure OthS (w : World) (base : Nat) (u : Nat → Nat → Bool) (env : Env) (v : Value) (Q : Env) : Prop where
  own : OwnG encRw 1 40 w base v Q
  mask : EnvM u env Q
  row : ∀ r ∈ Q, OwnD w base r.v r.l ∧ ∀ d ∈ r.l, InI d
theorem OthS.below {w w' : World} {base : Nat} {u : Nat → Nat → Bool} {env : Env} {v : Value} {Q : Env} (h : OthS w base u env v Q) (hb : Below w.heap.size w w') : OthS w' base u env v Q :=
  ⟨h.own.below hb, h.mask, fun r hr => ⟨(h.row r hr).1.below hb, (h.row r hr).2⟩⟩
theorem OthS.envV {w : World} {base : Nat} {u : Nat → Nat → Bool} {env : Env} {v : Value} {Q : Env} (h : OthS w base u env v Q) : EnvV w v Q :=
  ⟨(OwnG.val hkRw h.own).weak, fun r hr => (OwnG.val hkDat (h.row r hr).1).weak⟩
theorem OthS.snoc {w w8 : World} {base : Nat} {u : Nat → Nat → Bool} {env : Env} {v v8 : Value} {Q : Env} (h : OthS w base u env v Q) {r : Rw} (hr : OwnD w base r.v r.l) (hI : ∀ d ∈ r.l, InI d) (hl : Q.length < env.length)
    (h1 : r.l.length = (env[Q.length]).l.length) (h2 : RowM (u Q.length) (env[Q.length]).l r.l) (ho : OwnG encRw 1 40 w8 base v8 (Q ++ [r])) (hg : w.grownBy w8 v.ownBlock) : OthS w8 base u env v8 (Q ++ [r]) := by
  refine ⟨ho, h.mask.snoc hl h1 h2, fun x hx => ?_⟩
  rcases List.mem_append.1 hx with hx | hx
  · exact ⟨(h.row x hx).1.kept hg (own_apart (h.row x hx).1 h.own (by decide)), (h.row x hx).2⟩
  · rw [List.mem_singleton] at hx
    rw [hx]
    exact ⟨hr.kept hg (own_apart hr h.own (by decide)), hI⟩
theorem run_neq_same (k i : Int) (s : ByteArray) (w : World) :
    (binOp .neq 27 (.agg #[.int .i64 k, .int .i64 i, .string s]) (.agg #[.int .i64 k, .int .i64 i, .string s])).run Tryz.prog w = .ok (.bool false) w := by
  go_simp

end Go.Proofs.YtippffjhkinfoaaGreatDoor

namespace Go.Proofs.YtippffjhkinfoaaGreatDoor
open Go.RowKit Go.Maps

set_option maxRecDepth 100000 in
set_option maxHeartbeats 8000000 in
theorem scopes_err (bk bi bf : Int) (bS : ByteArray) (k t : Int) (nl : Bool) (lk li : Int) (ls : ByteArray) (lv col xo : Int) (Ak As : Option Addr) (nk ck ns cs : Nat) (env : Env) (vE vM vS : Value) (lm : List Dat) (w : World)
    (hE : EnvV w vE env) (hEn : env.length ≤ 1048576) (hM : DatV w vM lm) (hvS : SliceV vS)
    (H2 : Hid (∀ w', Below w.heap.size w w' → Calls Tryz.prog 8 #[.agg #[.int .i64 k, .int .i64 t, .bool nl, .int .i64 lk, .int .i64 li, .string ls, .int .i64 lv, .int .i64 col, .int .i64 xo, .slice Ak nk ck, .slice As ns cs], vE, vS] w' (ValPost (⟨0, 0, noText⟩, 1) w')))
    (H4 : Hid (∀ vw w', Below w.heap.size w w' → EnvV w' vw (env ++ [⟨vM, lm⟩]) → Calls Tryz.prog 8 #[.agg #[.int .i64 k, .int .i64 t, .bool nl, .int .i64 lk, .int .i64 li, .string ls, .int .i64 lv, .int .i64 col, .int .i64 xo, .slice Ak nk ck, .slice As ns cs], vw, vS] w' (ValPost (⟨bk, bi, bS⟩, bf) w'))) :
    Calls Tryz.prog 4 #[.agg #[.int .i64 k, .int .i64 t, .bool nl, .int .i64 lk, .int .i64 li, .string ls, .int .i64 lv, .int .i64 col, .int .i64 xo, .slice Ak nk ck, .slice As ns cs], vE, vM, vS] w (TrueB w) := by
  obtain ⟨vSA, vSn, vSc, rfl⟩ := hvS
  obtain ⟨AE, cE, rfl, _, _⟩ := hE.slice
  obtain ⟨AM, cM, rfl, _, _⟩ := hM.len
  obtain ⟨i1, hj, hy0, hy1, hy2⟩ := info_parts infoRow
  have HJ := Lib.hid hj
  have HY0 := Lib.hid hy0
  have HY1 := Lib.hid hy1
  have HY2 := Lib.hid hy2
  have HRS : Hid (∀ r ∈ env, ∃ A n c, r.v = .slice A n c) := fun r hr => by obtain ⟨A, c, e, _, _⟩ := (hE.2 r hr).len; exact ⟨_, _, _, e⟩
  have HMS : Hid (∀ r ∈ [(⟨.slice AM lm.length cM, lm⟩ : Rw)], ∃ A n c, r.v = .slice A n c) := fun r hr => by rw [List.mem_singleton] at hr; rw [hr]; exact ⟨_, _, _, rfl⟩
  clear hj hy0 hy1 hy2
  have qb := (Below.refl w.heap.size w).alloc (Nat.le_refl _) (.cells #[.int .i64 k, .int .i64 t, .bool nl, .int .i64 lk, .int .i64 li, .string ls, .int .i64 lv, .int .i64 col, .int .i64 xo, .slice Ak nk ck, .slice As ns cs] 30)
  have bX := Blk.new w #[.int .i64 k, .int .i64 t, .bool nl, .int .i64 lk, .int .i64 li, .string ls, .int .i64 lv, .int .i64 col, .int .i64 xo, .slice Ak nk ck, .slice As ns cs] 30
  have hQ := fun w => run_eq_same 0 0 noText w
  go_enter Tryz.func4, Tryz.ntmps4
  go_wp2_with (first
    | (go_at_call 5; (with_reducible refine (alive_any _).mono ?_); rintro e w1 ⟨rfl, hb1⟩; have q1 := qb.trans (hb1.mono qb.size); have bX1 := bX.below hb1; have y0 := bX1.cell 0; have y1 := bX1.cell 1; have y2 := bX1.cell 2; have y3 := bX1.cell 3; have y4 := bX1.cell 4; have y5 := bX1.cell 5; have y6 := bX1.cell 6; have y7 := bX1.cell 7; have y8 := bX1.cell 8; have y9 := bX1.cell 9; have y10 := bX1.cell 10; simp only [List.getElem?_toArray, List.getElem?_cons_zero, List.getElem?_cons_succ] at y0 y1 y2 y3 y4 y5 y6 y7 y8 y9 y10)
    | (go_at_call 8; (with_reducible refine (H4.out _ _ q4 HE4.out).mono ?_); rintro e w5 ⟨rfl, hb5⟩; have q5 := (q4.trans (hb5.mono q4.size)).alloc (by have := q4.size; have := hb5.size; omega) (.cells #[.int .i64 bk, .int .i64 bi, .string bS] 27); have bX5 := (bX4.below hb5).alloc (.cells #[.int .i64 bk, .int .i64 bi, .string bS] 27); have bA5 := (bA4.below hb5).alloc (.cells #[.int .i64 bk, .int .i64 bi, .string bS] 27); have bB5 := Blk.new w5 #[.int .i64 bk, .int .i64 bi, .string bS] 27; clear y0 y1 y2 y3 y4 y5 y6 y7 y8 y9 y10; have a0 := bA5.cell 0; have a1 := bA5.cell 1; have a2 := bA5.cell 2; simp only [List.getElem?_toArray, List.getElem?_cons_zero, List.getElem?_cons_succ] at a0 a1 a2; have b0 := bB5.cell 0; have b1 := bB5.cell 1; have b2 := bB5.cell 2; simp only [List.getElem?_toArray, List.getElem?_cons_zero, List.getElem?_cons_succ] at b0 b1 b2)
    | (go_at_call 8; (with_reducible refine (H2.out _ q1).mono ?_); rintro e w2 ⟨rfl, hb2⟩; have q2 := (q1.trans (hb2.mono q1.size)).alloc (by have := q1.size; have := hb2.size; omega) (.cells #[.int .i64 0, .int .i64 0, .string noText] 27); have bX2 := (bX1.below hb2).alloc (.cells #[.int .i64 0, .int .i64 0, .string noText] 27); have bA2 := Blk.new w2 #[.int .i64 0, .int .i64 0, .string noText] 27; have hw2 : w.heap.size + 1 ≤ w2.heap.size := Nat.le_trans bX1.lt hb2.size; clear y0 y1 y2 y3 y4 y5 y6 y7 y8 y9 y10; have q2r := q2.alloc q2.size (.cells #[] 40); have HO2 : Hid (OwnG encRw 1 40 ((w2.alloc (.cells #[.int .i64 0, .int .i64 0, .string noText] 27)).alloc (.cells #[] 40)) (w2.heap.size + 1) (.slice (some ⟨w2.heap.size + 1, 0, none⟩) 0 0) []) := (by have := OwnG.lit0 (enc := encRw) (k := 1) 40 (w2.alloc (.cells #[.int .i64 0, .int .i64 0, .string noText] 27)) (w2.heap.size + 1) (by simp); rwa [show (w2.alloc (.cells #[.int .i64 0, .int .i64 0, .string noText] 27)).heap.size = w2.heap.size + 1 by simp] at this); have HE2 := Lib.hid ((hE.below q2r).1))
    | (at_builtin; refine wpList_append_g hkRw (by decide) 23 40 i1 _ 24 Tryz.underlying23 HJ.out HY0.out HY1.out HY2.out rfl _ rfl _ _ rfl (w2.heap.size + 1) _ _ ([] ++ env) [⟨(.slice AM lm.length cM), lm⟩] rfl rfl HO3.out HR3.out (one_rw HMS.out) (by unfold maxLen; simp only [List.nil_append, List.length_cons, List.length_nil]; omega) (by simp only [List.nil_append, List.length_cons, List.length_nil]; omega) (by simp; omega) ?_; intro v4 w4 ho4 hg4; have g4 := OwnG.grown HO3.out (by simp; omega) hg4; have q4 := (q3.alloc q3.size (.cells #[(.slice AM lm.length cM)] 40)).trans (g4.mono (by omega)); have bX4 := (bX3.alloc (.cells #[(.slice AM lm.length cM)] 40)).upto g4 (by omega); have bA4 := (bA3.alloc (.cells #[(.slice AM lm.length cM)] 40)).upto g4 (by omega); have y0 := bX4.cell 0; have y1 := bX4.cell 1; have y2 := bX4.cell 2; have y3 := bX4.cell 3; have y4 := bX4.cell 4; have y5 := bX4.cell 5; have y6 := bX4.cell 6; have y7 := bX4.cell 7; have y8 := bX4.cell 8; have y9 := bX4.cell 9; have y10 := bX4.cell 10; simp only [List.getElem?_toArray, List.getElem?_cons_zero, List.getElem?_cons_succ] at y0 y1 y2 y3 y4 y5 y6 y7 y8 y9 y10; have HE4 : Hid (EnvV w4 v4 (env ++ [⟨(.slice AM lm.length cM), lm⟩])) := ⟨(by have := (OwnG.val hkRw ho4).weak; rwa [List.nil_append] at this), (fun r hr => by rcases List.mem_append.1 hr with hr | hr; exact (hE.2 r hr).below q4; rw [List.mem_singleton] at hr; rw [hr]; exact hM.below q4)⟩)
    | (at_builtin; refine wpList_append_w hkRw (by decide) 23 40 i1 _ 24 Tryz.underlying23 HJ.out HY0.out HY1.out HY2.out rfl _ rfl _ _ rfl (w2.heap.size + 1) _ _ [] env rfl rfl HO2.out HE2.out (one_rw HRS.out) (by unfold maxLen; simp only [List.length_nil]; omega) (by simp only [List.length_nil]; omega) (by simp) ?_; intro v3 w3 ho3 hg3; have g3 := OwnG.grown HO2.out (by simp) hg3; have q3 := q2r.trans (g3.mono (by omega)); have bX3 := (bX2.alloc (.cells #[] 40)).upto g3 (by omega); have bA3 := (bA2.alloc (.cells #[] 40)).upto g3 (by omega); have hw3 : w2.heap.size + 1 ≤ w3.heap.size := Nat.le_trans (by simp) g3.size; have HO3 := Lib.hid (ho3.alloc (.cells #[(.slice AM lm.length cM)] 40)); have HR3 := Lib.hid (valR_one w3 w3.heap.size (.slice AM lm.length cM) lm rfl)))
  go_ret
  exact ⟨rfl, q5⟩

set_option maxRecDepth 100000 in
set_option maxHeartbeats 8000000 in
theorem scopes_raw (ak ai af : Int) (aS : ByteArray) (C : List (Int × Int)) (u : Nat → Nat → Bool) (h1 : af ≠ 1) (k t : Int) (nl : Bool) (lk li : Int) (ls : ByteArray) (lv col xo : Int) (Ak As : Option Addr) (nk ck ns cs : Nat) (env : Env) (vE vM vS : Value) (lm : List Dat) (w : World)
    (hE : EnvV w vE env) (hEI : ∀ r ∈ env, ∀ d ∈ r.l, InI d) (hEr : ∀ r ∈ env, r.l.length ≤ 1048576) (hEn : env.length ≤ 1048576) (hM : DatV w vM lm) (hvS : SliceV vS)
    (H2 : Hid (∀ w', Below w.heap.size w w' → Calls Tryz.prog 8 #[.agg #[.int .i64 k, .int .i64 t, .bool nl, .int .i64 lk, .int .i64 li, .string ls, .int .i64 lv, .int .i64 col, .int .i64 xo, .slice Ak nk ck, .slice As ns cs], vE, vS] w' (ValPost (⟨ak, ai, aS⟩, af) w')))
    (H4 : Hid (∀ vw w', Below w.heap.size w w' → EnvV w' vw (env ++ [⟨vM, lm⟩]) → Calls Tryz.prog 8 #[.agg #[.int .i64 k, .int .i64 t, .bool nl, .int .i64 lk, .int .i64 li, .string ls, .int .i64 lv, .int .i64 col, .int .i64 xo, .slice Ak nk ck, .slice As ns cs], vw, vS] w' (ValPost (⟨ak, ai, aS⟩, af) w')))
    (HN : Hid (∀ w' b, Below w.heap.size w w' → w.heap.size ≤ b → OwnK w' b 0 (.map []) → Calls Tryz.prog 12 #[.agg #[.int .i64 k, .int .i64 t, .bool nl, .int .i64 lk, .int .i64 li, .string ls, .int .i64 lv, .int .i64 col, .int .i64 xo, .slice Ak nk ck, .slice As ns cs], .map (some b)] w' (NamesPost b 0 (.map []) C w')))
    (HU : Hid (∀ i j : Nat, i < env.length → j ≤ 1048576 → ∀ c : Int, (putAll (.map []) C).atKey (keyL ((i : Int), (j : Int))) (.lit (.int .i64 0)) = .lit (.int .i64 c) → c = if u i j then 1 else 0))
    (H9 : Hid (∀ vo Q w', Below w.heap.size w w' → EnvV w' vo Q → (∀ r ∈ Q, ∀ d ∈ r.l, InI d) → EnvM u env Q → Q.length = env.length → Calls Tryz.prog 8 #[.agg #[.int .i64 k, .int .i64 t, .bool nl, .int .i64 lk, .int .i64 li, .string ls, .int .i64 lv, .int .i64 col, .int .i64 xo, .slice Ak nk ck, .slice As ns cs], vo, vS] w' (ValPost (⟨ak, ai, aS⟩, af) w'))) :
    Calls Tryz.prog 4 #[.agg #[.int .i64 k, .int .i64 t, .bool nl, .int .i64 lk, .int .i64 li, .string ls, .int .i64 lv, .int .i64 col, .int .i64 xo, .slice Ak nk ck, .slice As ns cs], vE, vM, vS] w (TrueB w) := by
  obtain ⟨vSA, vSn, vSc, rfl⟩ := hvS
  obtain ⟨AE, cE, rfl, _, _⟩ := hE.slice
  obtain ⟨AM, cM, rfl, _, _⟩ := hM.len
  obtain ⟨i1, hj, hy0, hy1, hy2⟩ := info_parts infoRow
  have HJ := Lib.hid hj
  have HY0 := Lib.hid hy0
  have HY1 := Lib.hid hy1
  have HY2 := Lib.hid hy2
  have HRS : Hid (∀ r ∈ env, ∃ A n c, r.v = .slice A n c) := fun r hr => by obtain ⟨A, c, e, _, _⟩ := (hE.2 r hr).len; exact ⟨_, _, _, e⟩
  have HMS : Hid (∀ r ∈ [(⟨.slice AM lm.length cM, lm⟩ : Rw)], ∃ A n c, r.v = .slice A n c) := fun r hr => by rw [List.mem_singleton] at hr; rw [hr]; exact ⟨_, _, _, rfl⟩
  clear hj hy0 hy1 hy2
  have qb := (Below.refl w.heap.size w).alloc (Nat.le_refl _) (.cells #[.int .i64 k, .int .i64 t, .bool nl, .int .i64 lk, .int .i64 li, .string ls, .int .i64 lv, .int .i64 col, .int .i64 xo, .slice Ak nk ck, .slice As ns cs] 30)
  have bX := Blk.new w #[.int .i64 k, .int .i64 t, .bool nl, .int .i64 lk, .int .i64 li, .string ls, .int .i64 lv, .int .i64 col, .int .i64 xo, .slice Ak nk ck, .slice As ns cs] 30
  have hQ := fun w => run_eq_same ak ai aS w
  have hN := fun w => run_neq_same ak ai aS w
  have e1 : (af == 1) = false := beq_eq_false_iff_ne.2 h1
  have eff : (af != af) = false := by simp
  have hmm := @run_makeMap Tryz.prog
  obtain ⟨i0, hi, hz0, hz1, hz2⟩ := info_parts infoDat
  have HI := Lib.hid hi
  have HZ0 := Lib.hid hz0
  have HZ1 := Lib.hid hz1
  have HZ2 := Lib.hid hz2
  clear hi hz0 hz1 hz2
  go_enter Tryz.func4, Tryz.ntmps4
  go_wp2_with (first
    | (go_at_call 5; (with_reducible refine (alive_any _).mono ?_); rintro e w1 ⟨rfl, hb1⟩; have q1 := qb.trans (hb1.mono qb.size); have bX1 := bX.below hb1; have y0 := bX1.cell 0; have y1 := bX1.cell 1; have y2 := bX1.cell 2; have y3 := bX1.cell 3; have y4 := bX1.cell 4; have y5 := bX1.cell 5; have y6 := bX1.cell 6; have y7 := bX1.cell 7; have y8 := bX1.cell 8; have y9 := bX1.cell 9; have y10 := bX1.cell 10; simp only [List.getElem?_toArray, List.getElem?_cons_zero, List.getElem?_cons_succ] at y0 y1 y2 y3 y4 y5 y6 y7 y8 y9 y10)
    | (go_at_call 12; (with_reducible refine (HN.out _ _ q6 (by omega) hmap).mono ?_); rintro e w7 ⟨rfl, ho7, hg7⟩; have g7 := (Below.refl (w5.heap.size + 1) _).grown hg7 (by simp) (fun k hk => by injection hk with hk; omega); have q7 := q6.trans (g7.mono (by omega)); have bX7 := bX6.upto g7 (by omega); have bA7 := bA6.upto g7 (by omega))
    | (go_at_call 8; (with_reducible refine (H4.out _ _ q4 HE4.out).mono ?_); rintro e w5 ⟨rfl, hb5⟩; have q5 := (q4.trans (hb5.mono q4.size)).alloc (by have := q4.size; have := hb5.size; omega) (.cells #[.int .i64 ak, .int .i64 ai, .string aS] 27); have bX5 := (bX4.below hb5).alloc (.cells #[.int .i64 ak, .int .i64 ai, .string aS] 27); have bA5 := (bA4.below hb5).alloc (.cells #[.int .i64 ak, .int .i64 ai, .string aS] 27); have bB5 := Blk.new w5 #[.int .i64 ak, .int .i64 ai, .string aS] 27; clear y0 y1 y2 y3 y4 y5 y6 y7 y8 y9 y10; have a0 := bA5.cell 0; have a1 := bA5.cell 1; have a2 := bA5.cell 2; simp only [List.getElem?_toArray, List.getElem?_cons_zero, List.getElem?_cons_succ] at a0 a1 a2; have b0 := bB5.cell 0; have b1 := bB5.cell 1; have b2 := bB5.cell 2; simp only [List.getElem?_toArray, List.getElem?_cons_zero, List.getElem?_cons_succ] at b0 b1 b2; have q6 := q5.alloc q5.size (.map #[] 0); have bX6 := bX5.alloc (.map #[] 0); have bA6 := bA5.alloc (.map #[] 0); have hw5 : w2.heap.size + 1 ≤ w5.heap.size := Nat.le_trans (Nat.le_trans hw3 (by have := hg4.size; simp at this; omega)) hb5.size; have hmap : OwnK ((w5.alloc (.cells #[.int .i64 ak, .int .i64 ai, .string aS] 27)).alloc (.map #[] 0)) (w5.heap.size + 1) 0 (.map []) := (by have := World.ownsMap_made (H := Unit) (w5.alloc (.cells #[.int .i64 ak, .int .i64 ai, .string aS] 27)) Tryz.prog 43 (plainElem Tryz.prog 3); rwa [show (w5.alloc (.cells #[.int .i64 ak, .int .i64 ai, .string aS] 27)).heap.size = w5.heap.size + 1 by simp] at this); have y0 := bX6.cell 0; have y1 := bX6.cell 1; have y2 := bX6.cell 2; have y3 := bX6.cell 3; have y4 := bX6.cell 4; have y5 := bX6.cell 5; have y6 := bX6.cell 6; have y7 := bX6.cell 7; have y8 := bX6.cell 8; have y9 := bX6.cell 9; have y10 := bX6.cell 10; simp only [List.getElem?_toArray, List.getElem?_cons_zero, List.getElem?_cons_succ] at y0 y1 y2 y3 y4 y5 y6 y7 y8 y9 y10)
    | (go_at_call 8; (with_reducible refine (H2.out _ q1).mono ?_); rintro e w2 ⟨rfl, hb2⟩; have q2 := (q1.trans (hb2.mono q1.size)).alloc (by have := q1.size; have := hb2.size; omega) (.cells #[.int .i64 ak, .int .i64 ai, .string aS] 27); have bX2 := (bX1.below hb2).alloc (.cells #[.int .i64 ak, .int .i64 ai, .string aS] 27); have bA2 := Blk.new w2 #[.int .i64 ak, .int .i64 ai, .string aS] 27; have hw2 : w.heap.size + 1 ≤ w2.heap.size := Nat.le_trans bX1.lt hb2.size; clear y0 y1 y2 y3 y4 y5 y6 y7 y8 y9 y10; have q2r := q2.alloc q2.size (.cells #[] 40); have HO2 : Hid (OwnG encRw 1 40 ((w2.alloc (.cells #[.int .i64 ak, .int .i64 ai, .string aS] 27)).alloc (.cells #[] 40)) (w2.heap.size + 1) (.slice (some ⟨w2.heap.size + 1, 0, none⟩) 0 0) []) := (by have := OwnG.lit0 (enc := encRw) (k := 1) 40 (w2.alloc (.cells #[.int .i64 ak, .int .i64 ai, .string aS] 27)) (w2.heap.size + 1) (by simp); rwa [show (w2.alloc (.cells #[.int .i64 ak, .int .i64 ai, .string aS] 27)).heap.size = w2.heap.size + 1 by simp] at this); have HE2 := Lib.hid ((hE.below q2r).1))
    | (at_builtin; refine wpList_append_g hkRw (by decide) 23 40 i1 _ 24 Tryz.underlying23 HJ.out HY0.out HY1.out HY2.out rfl _ rfl _ _ rfl (w2.heap.size + 1) _ _ ([] ++ env) [⟨(.slice AM lm.length cM), lm⟩] rfl rfl HO3.out HR3.out (one_rw HMS.out) (by unfold maxLen; simp only [List.nil_append, List.length_cons, List.length_nil]; omega) (by simp only [List.nil_append, List.length_cons, List.length_nil]; omega) (by simp; omega) ?_; intro v4 w4 ho4 hg4; have g4 := OwnG.grown HO3.out (by simp; omega) hg4; have q4 := (q3.alloc q3.size (.cells #[(.slice AM lm.length cM)] 40)).trans (g4.mono (by omega)); have bX4 := (bX3.alloc (.cells #[(.slice AM lm.length cM)] 40)).upto g4 (by omega); have bA4 := (bA3.alloc (.cells #[(.slice AM lm.length cM)] 40)).upto g4 (by omega); have y0 := bX4.cell 0; have y1 := bX4.cell 1; have y2 := bX4.cell 2; have y3 := bX4.cell 3; have y4 := bX4.cell 4; have y5 := bX4.cell 5; have y6 := bX4.cell 6; have y7 := bX4.cell 7; have y8 := bX4.cell 8; have y9 := bX4.cell 9; have y10 := bX4.cell 10; simp only [List.getElem?_toArray, List.getElem?_cons_zero, List.getElem?_cons_succ] at y0 y1 y2 y3 y4 y5 y6 y7 y8 y9 y10; have HE4 : Hid (EnvV w4 v4 (env ++ [⟨(.slice AM lm.length cM), lm⟩])) := ⟨(by have := (OwnG.val hkRw ho4).weak; rwa [List.nil_append] at this), (fun r hr => by rcases List.mem_append.1 hr with hr | hr; exact (hE.2 r hr).below q4; rw [List.mem_singleton] at hr; rw [hr]; exact hM.below q4)⟩)
    | (at_builtin; refine wpList_append_w hkRw (by decide) 23 40 i1 _ 24 Tryz.underlying23 HJ.out HY0.out HY1.out HY2.out rfl _ rfl _ _ rfl (w2.heap.size + 1) _ _ [] env rfl rfl HO2.out HE2.out (one_rw HRS.out) (by unfold maxLen; simp only [List.length_nil]; omega) (by simp only [List.length_nil]; omega) (by simp) ?_; intro v3 w3 ho3 hg3; have g3 := OwnG.grown HO2.out (by simp) hg3; have q3 := q2r.trans (g3.mono (by omega)); have bX3 := (bX2.alloc (.cells #[] 40)).upto g3 (by omega); have bA3 := (bA2.alloc (.cells #[] 40)).upto g3 (by omega); have hw3 : w2.heap.size + 1 ≤ w3.heap.size := Nat.le_trans (by simp) g3.size; have HO3 := Lib.hid (ho3.alloc (.cells #[(.slice AM lm.length cM)] 40)); have HR3 := Lib.hid (valR_one w3 w3.heap.size (.slice AM lm.length cM) lm rfl)))
  have hw7 : w5.heap.size + 2 ≤ w7.heap.size := Nat.le_trans (by simp) hg7.size
  have HE7 := Lib.hid (hE.below q7)
  have HEI := Lib.hid hEI
  have HEr := Lib.hid hEr
  have HK7 := Lib.hid ho7
  have HX7 := Lib.hid bX7
  have HA7 := Lib.hid bA7
  have HQ7 := Lib.hid q7
  have hw25 : w2.heap.size < w7.heap.size := by omega
  have hw05 : w.heap.size < w7.heap.size := by omega
  have hw57 : w5.heap.size + 1 < w7.heap.size := by omega
  have hw05le : w.heap.size ≤ w7.heap.size := by omega
  clear hE hEI hEr hM H2 H4 HN bX bX1 bX2 bX3 bX4 bX5 bX6 bX7 bA2 bA3 bA4 bA5 bA6 bA7 bB5 qb q1 q2 q2r q3 q4 q5 q6 q7 HO2 HE2 HO3 HR3 HE4 ho3 ho4 ho7 hg3 hg4 hg7 g3 g4 g7 hb1 hb2 hb5 a0 a1 a2 b0 b1 b2 y0 y1 y2 y3 y4 y5 y6 y7 y8 y9 y10 hmap e1 HRS HMS hw2 hw3 hw5 hw7
  go_loopw [15, 64] (fun vo i wr => ∃ n : Nat, ∃ Q : Env, i = .int .i64 n ∧ n ≤ env.length ∧ Below w7.heap.size w7 wr ∧ Q.length = n ∧ Hid (OthS wr w7.heap.size u env vo Q)) (fun _ i _ => env.length - (intOf i).toNat)
  case atStart => exact ⟨0, [], rfl, Nat.zero_le _, Below.refl _ _, rfl, Lib.hid ⟨OwnG.nil _ _ _, EnvM.nil _ _, fun r hr => by cases hr⟩⟩
  case round =>
    obtain ⟨n, Q, rfl, hn, hb, hQn, HO⟩ := hrel
    by_cases hlt : n < env.length
    · have hlt' : (n : Int) < env.length := by omega
      have hn9 : (n : Int) + 1 ≤ 9223372036854775807 := by omega
      rcases HE7.out.1 with ⟨_, h0⟩ | ⟨bb, off, c', e, _, hbl, hat, _⟩
      · rw [h0] at hlt; simp at hlt
      · injection e with e1 e2 e3
        subst e1 e3
        have r0 := (hat.block (hb.block bb hbl)).rw n hlt
        have hDV := (HE7.out.2 env[n] (List.getElem_mem hlt)).below hb
        have hrl := HEr.out env[n] (List.getElem_mem hlt)
        have HRI := Lib.hid (HEI.out env[n] (List.getElem_mem hlt))
        have HSN : Hid (∀ (w8 w9 : World) (v8 vo : Value) (r : Rw), OthS w8 w7.heap.size u env vo Q → OwnD w8 w7.heap.size r.v r.l → (∀ d ∈ r.l, InI d) → r.l.length = env[n].l.length → RowM (u n) env[n].l r.l → OwnG encRw 1 40 w9 w7.heap.size v8 (Q ++ [r]) → w8.grownBy w9 vo.ownBlock → OthS w9 w7.heap.size u env v8 (Q ++ [r])) := by
          intro w8 w9 v8 vo r ho hr hI h1 h2 h3 h4
          subst hQn
          exact ho.snoc hr hI hlt h1 h2 h3 h4
        have HUn := Lib.hid (fun j hj => HU.out n j hlt hj)
        clear hat
        revert r0 hDV hrl HRI HSN
        generalize env[n] = r
        intro r0 hDV hrl HRI HSN
        obtain ⟨rv, rl⟩ := r
        simp only at r0 hDV hrl HRI HSN
        obtain ⟨AR, cR, hrv, _, _⟩ := DatV.len hDV
        subst hrv
        have HDV := Lib.hid hDV
        clear hDV
        obtain ⟨wo, rfl⟩ : ∃ wo, wo = wr := ⟨_, rfl⟩
        go_wp2_with fail
        go_loopw [18, 71] (fun vs i wr => ∃ j : Nat, ∃ P : List Dat, i = .int .i64 j ∧ j ≤ rl.length ∧ Below wo.heap.size wo wr ∧ P.length = j ∧ Hid (OwnD wr wo.heap.size vs P ∧ RowM (u n) rl P ∧ ∀ d ∈ P, InI d)) (fun _ i _ => rl.length - (intOf i).toNat)
        case atStart => exact ⟨0, [], rfl, Nat.zero_le _, Below.refl _ _, rfl, Lib.hid ⟨OwnG.nil _ _ _, RowM.nil _ _, fun d hd => by cases hd⟩⟩
        case round =>
          obtain ⟨j, P, rfl, hj, hbi, hPj, HP⟩ := hrel
          by_cases hlj : j < rl.length
          · have hlj' : (j : Int) < rl.length := by omega
            have hj9 : (j : Int) + 1 ≤ 9223372036854775807 := by omega
            rcases HDV.out with ⟨_, h0⟩ | ⟨bd, od, c', e, _, hbd, had, _⟩
            · rw [h0] at hlj; simp at hlj
            · injection e with e1 e2 e3
              subst e1 e3
              have had1 := had.block (hbi.block bd hbd)
              have ej := List.getElem?_eq_getElem hlj
              have d0 := had1 j _ ej 0 _ rfl
              have d1 := had1 j _ ej 1 _ rfl
              have d2 := had1 j _ ej 2 _ rfl
              simp only [Nat.add_zero] at d0
              have HS1 : Hid (∀ d, d = (if u n j then rl[j] else otherD) → RowM (u n) rl (P ++ [d]) ∧ ∀ x ∈ P ++ [d], InI x) := by
                intro d hd
                subst hPj
                refine ⟨by rw [hd]; exact HP.out.2.1.snoc hlj, fun x hx => ?_⟩
                rcases List.mem_append.1 hx with hx | hx
                · exact HP.out.2.2 x hx
                · rw [List.mem_singleton] at hx
                  rw [hx, hd]
                  split
                  · exact HRI.out _ (List.getElem_mem hlj)
                  · exact ⟨by show (-9223372036854775808 : Int) ≤ 77; decide, by show (77 : Int) ≤ 9223372036854775807; decide⟩
              have HKY := Lib.hid (keyL_of (p := ((n : Int), (j : Int))) ⟨by first | exact WalkArith.wf_i64 (by omega) | (simp [Lit.wf, IntKind.min, IntKind.max, IntKind.signed, IntKind.bits]; omega), by first | exact WalkArith.wf_i64 (by omega) | (simp [Lit.wf, IntKind.min, IntKind.max, IntKind.signed, IntKind.bits]; omega)⟩)
              have HC1 := Lib.hid (HUn.out j (by omega))
              clear had had1 ej
              revert d0 d1 d2 HS1
              generalize rl[j] = d
              intro d0 d1 d2 HS1
              obtain ⟨dk, di, ds⟩ := d
              have hP6 : P.length ≤ 1048576 := by omega
              have HP1 := Lib.hid HP.out.1
              have h79 := hb.trans (hbi.mono hb.size)
              cases hu : u n j
              · rw [hu] at HC1 HS1
                have HK9 : Hid (OwnK (wr.alloc (.cells #[.int .i64 dk, .int .i64 di, .string ds] 27)) (w5.heap.size + 1) _ _) := (HK7.out.kept (row := none) ⟨h79.os, h79.tape, h79.output, h79.size, fun j hj _ => h79.block j hj⟩ (by simp)).alloc _
                have q9 := ((Below.refl wr.heap.size wr).alloc (Nat.le_refl _) (.cells #[.int .i64 2, .int .i64 77, .string noText] 27)).alloc (by simp) (.cells #[.int .i64 2, .int .i64 77, .string noText] 27)
                have h9 := hbi.trans (q9.mono hbi.size)
                have HO9 := Lib.hid (HP1.out.below q9)
                have HV9 := Lib.hid (valD_one (wr.alloc (.cells #[.int .i64 2, .int .i64 77, .string noText] 27)) (wr.heap.size + 1) 2 77 noText (by simp))
                have HS2 := Lib.hid (HS1.out ⟨2, 77, noText⟩ (by simp))
                clear HP HP1 HS1 HUn HSN HRI HE7 HEI HEr
                go_wp2_with (first
                  | (at_lookup; refine wpList_lookup_own_int _ rfl _ _ 41 rfl 43 3 .i64 lawK Tryz.underlying41 Tryz.underlying3 (zeroI _) (w5.heap.size + 1) _ _ rfl HK9.out _ _ rfl HKY.out ?_; intro c hat hwc; obtain rfl := HC1.out c hat; clear hat hwc)
                  | (at_builtin; refine wpList_append_g hkDat (by decide) 40 27 i0 _ 32 Tryz.underlying40 HI.out HZ0.out HZ1.out HZ2.out rfl _ rfl _ _ rfl wo.heap.size _ _ P [⟨2, 77, noText⟩] rfl rfl HO9.out HV9.out (one_dat _) (by unfold maxLen; simp only [List.length_cons, List.length_nil]; omega) (by simp only [List.length_cons, List.length_nil]; omega) h9.size ?_; intro v8 w8 ho8 hg8))
                have hgr := OwnG.grown HO9.out h9.size hg8
                refine ⟨⟨j + 1, P ++ [⟨2, 77, noText⟩], by go_num, hlj, h9.trans hgr, by rw [List.length_append, hPj]; rfl, Lib.hid ⟨ho8, HS2.out⟩⟩, ?_⟩
                simp only [intOf]
                omega
              · rw [hu] at HC1 HS1
                have HK9 : Hid (OwnK (wr.alloc (.cells #[.int .i64 dk, .int .i64 di, .string ds] 27)) (w5.heap.size + 1) _ _) := (HK7.out.kept (row := none) ⟨h79.os, h79.tape, h79.output, h79.size, fun j hj _ => h79.block j hj⟩ (by simp)).alloc _
                have q9 := ((Below.refl wr.heap.size wr).alloc (Nat.le_refl _) (.cells #[.int .i64 dk, .int .i64 di, .string ds] 27)).alloc (by simp) (.cells #[.int .i64 dk, .int .i64 di, .string ds] 27)
                have h9 := hbi.trans (q9.mono hbi.size)
                have HO9 := Lib.hid (HP1.out.below q9)
                have HV9 := Lib.hid (valD_one (wr.alloc (.cells #[.int .i64 dk, .int .i64 di, .string ds] 27)) (wr.heap.size + 1) dk di ds (by simp))
                have HS2 := Lib.hid (HS1.out ⟨dk, di, ds⟩ (by simp))
                clear HP HP1 HS1 HUn HSN HRI HE7 HEI HEr
                go_wp2_with (first
                  | (at_lookup; refine wpList_lookup_own_int _ rfl _ _ 41 rfl 43 3 .i64 lawK Tryz.underlying41 Tryz.underlying3 (zeroI _) (w5.heap.size + 1) _ _ rfl HK9.out _ _ rfl HKY.out ?_; intro c hat hwc; obtain rfl := HC1.out c hat; clear hat hwc)
                  | (at_builtin; refine wpList_append_g hkDat (by decide) 40 27 i0 _ 32 Tryz.underlying40 HI.out HZ0.out HZ1.out HZ2.out rfl _ rfl _ _ rfl wo.heap.size _ _ P [⟨dk, di, ds⟩] rfl rfl HO9.out HV9.out (one_dat _) (by unfold maxLen; simp only [List.length_cons, List.length_nil]; omega) (by simp only [List.length_cons, List.length_nil]; omega) h9.size ?_; intro v8 w8 ho8 hg8))
                have hgr := OwnG.grown HO9.out h9.size hg8
                refine ⟨⟨j + 1, P ++ [⟨dk, di, ds⟩], by go_num, hlj, h9.trans hgr, by rw [List.length_append, hPj]; rfl, Lib.hid ⟨ho8, HS2.out⟩⟩, ?_⟩
                simp only [intOf]
                omega
          · have hlj' : decide ((j : Int) < (rl.length : Int)) = false := decide_eq_false (by omega)
            obtain rfl : j = rl.length := by omega
            have hws : w7.heap.size ≤ wo.heap.size := hb.size
            have HOs := Lib.hid (HO.out.below hbi)
            have HPo := Lib.hid (OwnG.more HP.out.1 hws)
            obtain ⟨Ap, cp, hsv, _, _⟩ := DatV.len (OwnG.val hkDat HP.out.1).weak
            subst hsv
            have HSL : Hid (∀ r ∈ [(⟨.slice Ap P.length cp, P⟩ : Rw)], ∃ A n c, r.v = .slice A n c) := fun r hr => by rw [List.mem_singleton] at hr; rw [hr]; exact ⟨_, _, _, rfl⟩
            have HO2 := Lib.hid (HOs.out.own.alloc (.cells #[(.slice Ap P.length cp)] 40))
            have HR2 := Lib.hid (valR_one wr wr.heap.size (.slice Ap P.length cp) P rfl)
            have h79 := hb.trans (hbi.mono hb.size)
            have hz9 : w7.heap.size ≤ (wr.alloc (.cells #[(.slice Ap P.length cp)] 40)).heap.size := by have := h79.size; simp; omega
            have hQ6 : Q.length ≤ 1048576 := by omega
            have h9 := h79.alloc h79.size (.cells #[(.slice Ap P.length cp)] 40)
            have HPj := Lib.hid hPj
            have HQn := Lib.hid hQn
            have HP2 := Lib.hid HP.out.2
            have hP6 : P.length ≤ 1048576 := by omega
            clear hPj hQn HP HE7 HEI HEr HX7 HA7 HUn HRI HDV hrl h79 hlj hj r0 HK7 HQ7 H9 HU hmm hQ hN eff hbi HO hb hws
            go_wp2_with (at_builtin; refine wpList_append_g hkRw (by decide) 23 40 i1 _ 24 Tryz.underlying23 HJ.out HY0.out HY1.out HY2.out rfl _ rfl _ _ rfl w7.heap.size _ _ Q [⟨(.slice Ap P.length cp), P⟩] rfl rfl HO2.out HR2.out (one_rw HSL.out) (by unfold maxLen; simp only [List.length_cons, List.length_nil]; omega) (by simp only [List.length_cons, List.length_nil]; omega) hz9 ?_; intro v8 w8 ho8 hg8)
            have hgr := OwnG.grown HO2.out hz9 hg8
            have q9 := (Below.refl wr.heap.size wr).alloc (Nat.le_refl _) (.cells #[(.slice Ap P.length cp)] 40)
            have HN9 := Lib.hid (HSN.out _ _ _ _ ⟨(.slice Ap P.length cp), P⟩ (HOs.out.below q9) (HPo.out.below q9) HP2.out.2 HPj.out HP2.out.1 ho8 hg8)
            refine ⟨⟨n + 1, Q ++ [⟨(.slice Ap P.length cp), P⟩], by go_num, hlt, h9.trans hgr, by rw [List.length_append, HQn.out]; rfl, HN9⟩, ?_⟩
            simp only [intOf]
            omega
    · have hlt' : decide ((n : Int) < (env.length : Int)) = false := decide_eq_false (by omega)
      obtain rfl : n = env.length := by omega
      have q1 := HQ7.out.trans (hb.mono hw05le)
      have qr := hb
      have bXr := HX7.out.upto hb hw05
      have bAr := HA7.out.upto hb hw25
      have HEO := Lib.hid HO.out.envV
      have HQM := Lib.hid HO.out.mask
      have HQI : Hid (∀ r ∈ Q, ∀ d ∈ r.l, InI d) := fun r hr => (HO.out.row r hr).2
      have hQl : Q.length = env.length := hQn
      have y0 := bXr.cell 0
      have y1 := bXr.cell 1
      have y2 := bXr.cell 2
      have y3 := bXr.cell 3
      have y4 := bXr.cell 4
      have y5 := bXr.cell 5
      have y6 := bXr.cell 6
      have y7 := bXr.cell 7
      have y8 := bXr.cell 8
      have y9 := bXr.cell 9
      have y10 := bXr.cell 10
      simp only [List.getElem?_toArray, List.getElem?_cons_zero, List.getElem?_cons_succ] at y0 y1 y2 y3 y4 y5 y6 y7 y8 y9 y10
      clear HO HX7 HA7 HE7 HEI HEr HK7 HU hn hlt hmm
      go_wp2_with (go_at_call 8; (with_reducible refine (H9.out _ _ _ q1 HEO.out HQI.out HQM.out hQl).mono ?_); rintro e w8 ⟨rfl, hb8⟩; have q8 := (qr.trans (hb8.mono hb.size)).alloc (by have := hb.size; have := hb8.size; omega) (.cells #[.int .i64 ak, .int .i64 ai, .string aS] 27); have h8 := (q1.trans (hb8.mono q1.size)).alloc (by have := q1.size; have := hb8.size; omega) (.cells #[.int .i64 ak, .int .i64 ai, .string aS] 27); have bA8 := (bAr.below hb8).alloc (.cells #[.int .i64 ak, .int .i64 ai, .string aS] 27); have bC8 := Blk.new w8 #[.int .i64 ak, .int .i64 ai, .string aS] 27; clear y0 y1 y2 y3 y4 y5 y6 y7 y8 y9 y10; have a0 := bA8.cell 0; have a1 := bA8.cell 1; have a2 := bA8.cell 2; simp only [List.getElem?_toArray, List.getElem?_cons_zero, List.getElem?_cons_succ] at a0 a1 a2; have b0 := bC8.cell 0; have b1 := bC8.cell 1; have b2 := bC8.cell 2; simp only [List.getElem?_toArray, List.getElem?_cons_zero, List.getElem?_cons_succ] at b0 b1 b2)
      go_ret
      exact ⟨rfl, h8⟩

end Go.Proofs.YtippffjhkinfoaaGreatDoor

namespace Go.Proofs.YtippffjhkinfoaaGreatDoor
open Go.RowKit Go.Maps

theorem ExI.cols {e : Ex} (h : ExI e) : ∀ p ∈ colsX e, WfP p := by
  induction h with
  | mk e hI hL hk ih =>
    intro p hp
    rw [colsX_eq] at hp
    split at hp
    · rw [List.mem_singleton] at hp
      rw [hp]
      exact hL
    · split at hp
      · have key : ∀ L : List Ex, (∀ x ∈ L, ∀ p ∈ colsX x, WfP p) → ∀ p ∈ colsXs L, WfP p := by
          intro L
          induction L with
          | nil => intro _ p hp; rw [colsXs_nil] at hp; cases hp
          | cons a l ihl =>
            intro h p hp
            rw [colsXs_cons] at hp
            rcases List.mem_append.1 hp with hp | hp
            · exact h a (by simp) p hp
            · exact ihl (fun x hx => h x (by simp [hx])) p hp
        exact key _ ih p hp
      · cases hp
theorem cols_siz {w : World} {e : Ex} (h : ExOk w e) : (colsX e).length ≤ sizX e := by
  induction h with
  | mk e hv hs hk ih =>
    rw [colsX_eq, sizX_eq]
    split
    · simp
    · split
      · have key : ∀ L : List Ex, (∀ x ∈ L, (colsX x).length ≤ sizX x) → (colsXs L).length ≤ sizXs L := by
          intro L
          induction L with
          | nil => intro _; rw [colsXs_nil, sizXs_nil]; exact Nat.le_refl _
          | cons e l ihl =>
            intro h
            rw [colsXs_cons, sizXs_cons, List.length_append]
            have h1 := h e (by simp)
            have h2 := ihl fun x hx => h x (by simp [hx])
            omega
        have := key e.kids ih
        omega
      · simp
theorem wf_small {n : Nat} (h : n ≤ 1048576) : (Lit.int .i64 (n : Int)).wf = true := by
  simp [Lit.wf, IntKind.min, IntKind.max, IntKind.signed, IntKind.bits]
  omega

/-- EvalScopes. -/
theorem scopes_any {w : World} {e : Ex} (h : ExOk w e) (hB : ExB e) (hX : ExI e) (hl : (subsX e).length ≤ 1048576) (hc : (colsX e).length ≤ 2097152) (env : Env) (vE : Value) (hE : EnvV w vE env) (hEI : ∀ r ∈ env, ∀ d ∈ r.l, InI d) (hEn : env.length ≤ 1048576) (hEr : ∀ r ∈ env, r.l.length ≤ 1048576)
    (vM : Value) (lm : List Dat) (hM : DatV w vM lm) (hMI : ∀ d ∈ lm, InI d) (v : Value) (S : List Dat) (hS : DatV w v S) (hSI : ∀ d ∈ S, InI d) (hT : Tabs w) :
    Calls Tryz.prog 4 #[exVal e, vE, vM, v] w (TrueB w) := by
  have hvS : SliceV v := by obtain ⟨A, c, rfl, _, _⟩ := hS.len; exact ⟨_, _, _, rfl⟩
  have HV := fun (env' : Env) (vw : Value) (w' : World) (hb : Below w.heap.size w w') (he : EnvV w' vw env') (hi : ∀ r ∈ env', ∀ d ∈ r.l, InI d) => value_any (h.later hb) env' vw he hi (hT.below hb) hB hl v S (hS.below hb) hSI
  have HW : ∀ r ∈ env ++ [⟨vM, lm⟩], ∀ d ∈ r.l, InI d := fun r hr => by
    rcases List.mem_append.1 hr with hr | hr
    · exact hEI r hr
    · rw [List.mem_singleton] at hr
      rw [hr]
      exact hMI
  have HN := fun (w' : World) (b : Nat) (hb : Below w.heap.size w w') (hbb : w.heap.size ≤ b) (ho : OwnK w' b 0 (.map [])) => names_any hbb h hX w' 0 (.map []) hb ho (by omega)
  have H2 := fun w' hb => HV env vE w' hb (hE.below hb) hEI
  have H4 := fun vw w' hb he => HV (env ++ [⟨vM, lm⟩]) vw w' hb he HW
  by_cases hf : (valueX env e S).2 = 1
  · have ha := errV_value env hB S (by rw [hf]; decide)
    have hv : valueX env e S = (⟨0, 0, noText⟩, 1) := by rw [← hf]; exact Prod.ext ha rfl
    rw [hv] at H2
    clear HV HN
    revert H4
    generalize valueX (env ++ [⟨vM, lm⟩]) e S = g
    intro H4
    obtain ⟨A, c, hkv, _, _⟩ := h.kv.slice
    obtain ⟨sA, sn, sc, hsv⟩ := h.sv
    clear h hB hX hl hc hf ha hv
    obtain ⟨k, t, nl, ⟨lk, li, ls⟩, lv, col, op, kv, sv, kids⟩ := e
    obtain ⟨⟨bk, bi, bS⟩, bf⟩ := g
    simp only at hkv hsv
    subst hkv hsv
    exact scopes_err bk bi bf bS k t nl lk li ls lv col op A sA kids.length c sn sc env vE vM v lm w hE hEn hM hvS H2 H4
  · rw [value_same hB (fun p _ => colX_wide (lv := p.1) (col := p.2) ⟨vM, lm⟩) S hf] at H4
    have HU : ∀ i j : Nat, i < env.length → j ≤ 1048576 → ∀ c : Int, (putAll (.map []) (colsX e)).atKey (keyL ((i : Int), (j : Int))) (.lit (.int .i64 0)) = .lit (.int .i64 c) → c = if (fun i j : Nat => decide (((i : Int), (j : Int)) ∈ colsX e)) i j then 1 else 0 := by
      intro i j hi hj c hat
      rw [at_putAll ⟨wf_small (by omega), wf_small hj⟩ _ _ _ hX.cols isMap_empty] at hat
      by_cases hm : ((i : Int), (j : Int)) ∈ colsX e
      · rw [if_pos hm] at hat
        simp only [hm, decide_true, if_true]
        injection hat with hat
        injection hat with _ hat
        exact hat.symm
      · rw [if_neg hm] at hat
        simp only [hm, decide_false]
        have h0 : (DataW.map [] : DataW Unit).atKey (keyL ((i : Int), (j : Int))) (.lit (.int .i64 0)) = .lit (.int .i64 0) := rfl
        rw [h0] at hat
        injection hat with hat
        injection hat with _ hat
        exact hat.symm
    have H9 : ∀ (vo : Value) (Q : Env) (w' : World), Below w.heap.size w w' → EnvV w' vo Q → (∀ r ∈ Q, ∀ d ∈ r.l, InI d) → EnvM (fun i j : Nat => decide (((i : Int), (j : Int)) ∈ colsX e)) env Q → Q.length = env.length → Calls Tryz.prog 8 #[exVal e, vo, v] w' (ValPost (valueX env e S) w') := by
      intro vo Q w' hb he hi hm hq
      have h1 := HV Q vo w' hb he hi
      rwa [value_same hB (fun p hp => ?_) S hf] at h1
      obtain ⟨lv, col⟩ := p
      by_cases hn : 0 ≤ lv ∧ 0 ≤ col
      · refine colX_mask hm hq ?_
        rw [show ((lv.toNat : Nat) : Int) = lv by omega, show ((col.toNat : Nat) : Int) = col by omega]
        exact decide_eq_true hp
      · intro d hd
        simp only at hd
        unfold colX at hd
        rw [if_neg hn] at hd
        cases hd
    clear HV
    revert H2 H4 H9 hf
    generalize valueX env e S = a
    intro H2 H4 hf H9
    obtain ⟨⟨ak, ai, aS⟩, af⟩ := a
    obtain ⟨A, c, hkv, _, _⟩ := h.kv.slice
    obtain ⟨sA, sn, sc, hsv⟩ := h.sv
    revert HU H9 HN
    generalize colsX e = C
    intro HN HU H9
    clear h hB hX hl
    obtain ⟨k, t, nl, ⟨lk, li, ls⟩, lv, col, op, kv, sv, kids⟩ := e
    simp only at hkv hsv
    subst hkv hsv
    exact scopes_raw ak ai af aS C _ hf k t nl lk li ls lv col op A sA kids.length c sn sc env vE vM v lm w hE hEI hEr hEn hM hvS H2 H4 HN HU H9

end Go.Proofs.YtippffjhkinfoaaGreatDoor

namespace Go.Proofs.YtippffjhkinfoaaGreatDoor
open Go.ChangeShapes Go.WideShapes Go.ChangeAt Go.RowKit Go.Joins Go.Deep

theorem evalScopes_whole (os : Os) {H : Type} (enc : TypeId × Value → H) :
    DataW.whole enc Tryz.prog ((World.laidAll Tryz.prog os Rows.evalScopesUptoRow.laid).forCall (fun _ _ => 0) ⟨#[], #[.agg #[.int .i64 0, .int .i64 0, .bool false, .int .i64 0, .int .i64 0, .string ⟨#[]⟩, .int .i64 0, .int .i64 0, .int .i64 0, .slice none 0 0, .slice none 0 0], .slice none 0 0, .slice none 0 0, .slice none 0 0], []⟩).memory Tryz.f4.params.toList Rows.evalScopesSpec.vars false #[.agg #[.int .i64 0, .int .i64 0, .bool false, .int .i64 0, .int .i64 0, .string ⟨#[]⟩, .int .i64 0, .int .i64 0, .int .i64 0, .slice none 0 0, .slice none 0 0], .slice none 0 0, .slice none 0 0, .slice none 0 0].toList 8 = some ([.agg [.lit (.int .i64 0), .lit (.int .i64 0), .lit (.bool false), .agg [.lit (.int .i64 0), .lit (.int .i64 0), .lit (.string [])], .lit (.int .i64 0), .lit (.int .i64 0), .lit (.int .i64 0), .nil, .nil], .nil, .nil, .nil], [], []) := by kernel_rfl

set_option linter.unusedVariables false in
set_option maxRecDepth 100000 in
theorem evalScopesUpto_lifted (os : Os) (started : os.Started) (H : Type) (enc : TypeId × Value → H) (F : Stop.Interp) :
    ReturnsInHanded {} Tryz.checked os 4 .any ((Rows.OpenSpec.upto Rows.evalScopesSpec).preRow enc Tryz.prog Tryz.f4 Rows.evalScopesUptoRow.domain false Rows.evalScopesUptoRow.laid)
      (((Rows.OpenSpec.upto Rows.evalScopesSpec).at F).post enc Tryz.prog Tryz.f4 false true false false) := by
  refine returnsInHanded_of_row (C := Tryz.checked) (s := Rows.OpenSpec.upto Rows.evalScopesSpec) Tryz.own started (by kernel_rfl) Tryz.func4
    ⟨World.laidAll Tryz.prog os Rows.evalScopesUptoRow.laid, fun _ _ => 0, ⟨#[], #[.agg #[.int .i64 0, .int .i64 0, .bool false, .int .i64 0, .int .i64 0, .string ⟨#[]⟩, .int .i64 0, .int .i64 0, .int .i64 0, .slice none 0 0, .slice none 0 0], .slice none 0 0, .slice none 0 0, .slice none 0 0], []⟩, World.laidAll_os _ _ _, World.shaped_of_ZipB (by kernel_rfl) (by kernel_rfl),
      (Input.okWide_of_okWideB (P := Tryz.prog) (w := (World.laidAll Tryz.prog os Rows.evalScopesUptoRow.laid).forCall (fun _ _ => 0) ⟨#[], #[.agg #[.int .i64 0, .int .i64 0, .bool false, .int .i64 0, .int .i64 0, .string ⟨#[]⟩, .int .i64 0, .int .i64 0, .int .i64 0, .slice none 0 0, .slice none 0 0], .slice none 0 0, .slice none 0 0, .slice none 0 0], []⟩) (f := 4) (i := ⟨#[], #[.agg #[.int .i64 0, .int .i64 0, .bool false, .int .i64 0, .int .i64 0, .string ⟨#[]⟩, .int .i64 0, .int .i64 0, .int .i64 0, .slice none 0 0, .slice none 0 0], .slice none 0 0, .slice none 0 0, .slice none 0 0], []⟩) (base := 0) (by kernel_rfl)).1,
      (Input.okWide_of_okWideB (P := Tryz.prog) (w := (World.laidAll Tryz.prog os Rows.evalScopesUptoRow.laid).forCall (fun _ _ => 0) ⟨#[], #[.agg #[.int .i64 0, .int .i64 0, .bool false, .int .i64 0, .int .i64 0, .string ⟨#[]⟩, .int .i64 0, .int .i64 0, .int .i64 0, .slice none 0 0, .slice none 0 0], .slice none 0 0, .slice none 0 0, .slice none 0 0], []⟩) (f := 4) (i := ⟨#[], #[.agg #[.int .i64 0, .int .i64 0, .bool false, .int .i64 0, .int .i64 0, .string ⟨#[]⟩, .int .i64 0, .int .i64 0, .int .i64 0, .slice none 0 0, .slice none 0 0], .slice none 0 0, .slice none 0 0, .slice none 0 0], []⟩) (by kernel_rfl)).2,
      OpenSpec.preRow_of_cond 8 (evalScopes_whole os enc) (by kernel_rfl) (fun k hk => by cases hk; kernel_rfl) (by kernel_rfl) (by rw [MakeChecks.laidMetH_plain _ _ _ (by kernel_rfl)]; exact laidMet_laidAll _ (by kernel_rfl) (by kernel_rfl)),
      by simp only [Assume.holds]; refine ⟨?_, ?_, ?_, ?_, ?_⟩; all_goals first | (intro h; cases h; done) | (intro d h; cases h; done) | simp⟩ ?_
  intro W base args ds gs before hval0 hW _ hcond _ hL _ _
  have hk := hcond _ rfl
  have hL' : laidMet Tryz.prog Rows.evalScopesUptoRow.laid W := by rw [MakeChecks.laidMetH_plain _ _ _ (by kernel_rfl)] at hL; exact hL
  have hT : Tabs W := tabs_of (Lib.laidMet.reads hL' (List.Mem.tail _ (List.Mem.tail _ (List.Mem.tail _ (List.Mem.tail _ (List.Mem.head _)))))) (Lib.laidMet.reads hL' (List.Mem.tail _ (List.Mem.tail _ (List.Mem.tail _ (List.Mem.head _)))))
  have hval : ∀ (j : Nat) t v, Tryz.f4.params[j]? = some t → args[j]? = some v → Value.okWide Tryz.prog W .any base t v := hval0
  have hW' := hW
  obtain ⟨p, q, hA0, hV, rfl, _, _⟩ := hW
  have hA : DataW.TrodAll enc Tryz.prog W 0 (fun _ => true) true Tryz.f4.params.toList args.toList ds p := hA0
  rw [Tryz.params4] at hA hval
  obtain ⟨v0, v1, v2, v3, d0, d1, d2, d3, p0, p1, p2, p3, rfl, rfl, rfl, h0, h1, h2, h3⟩ := trodAll_four hA
  obtain ⟨rfl, rfl⟩ := trodVars_none hV
  have c0 := h0
  have lt0 : ∀ x ∈ p0, x.block < W.heap.size := by obtain ⟨m, hm⟩ := c0; exact DataW.trod_lt m _ _ _ hm
  have c1 := h1
  have lt1 : ∀ x ∈ p1, x.block < W.heap.size := by obtain ⟨m, hm⟩ := c1; exact DataW.trod_lt m _ _ _ hm
  have c2 := h2
  have lt2 : ∀ x ∈ p2, x.block < W.heap.size := by obtain ⟨m, hm⟩ := c2; exact DataW.trod_lt m _ _ _ hm
  have c3 := h3
  have lt3 : ∀ x ∈ p3, x.block < W.heap.size := by obtain ⟨m, hm⟩ := c3; exact DataW.trod_lt m _ _ _ hm
  obtain ⟨cs0, rfl, hsz0⟩ := okWide_struct Tryz.underlying30 (hval 0 30 v0 rfl rfl)
  obtain ⟨fu0, hf0⟩ := h0
  obtain ⟨e0, he0, hok0, hI0, hs0⟩ := open_ex fu0 _ _ hf0
  have hv0 : Value.agg cs0 = exVal e0 := by
    have h1 : cs0.toList = encEx e0 := he0
    show Value.agg cs0 = .agg (encEx e0).toArray
    rw [← h1]
  obtain ⟨a1, n1, m1, rfl⟩ := okWide_slice Tryz.underlying23 (hval 1 23 v1 rfl rfl)
  obtain ⟨fu1, hf1⟩ := h1
  obtain ⟨w1, l1, hc1, hr1, hi1, hs1, ht1⟩ := open_env_len hf1
  obtain rfl : Value.slice a1 n1 m1 = w1 := by
    have h1 : [Value.slice a1 n1 m1] = [w1] := hc1
    injection h1
  obtain ⟨a2, n2, m2, rfl⟩ := okWide_slice Tryz.underlying40 (hval 2 40 v2 rfl rfl)
  obtain ⟨fu2, hf2⟩ := h2
  obtain ⟨w2, l2, hc2, hr2, hi2, hs2⟩ := open_datl_len Tryz.underlying40 hf2
  obtain rfl : Value.slice a2 n2 m2 = w2 := by
    have h1 : [Value.slice a2 n2 m2] = [w2] := hc2
    injection h1
  obtain ⟨a3, n3, m3, rfl⟩ := okWide_slice Tryz.underlying25 (hval 3 25 v3 rfl rfl)
  obtain ⟨fu3, hf3⟩ := h3
  obtain ⟨w3, l3, hc3, hr3, hi3⟩ := open_datl Tryz.underlying25 hf3
  obtain rfl : Value.slice a3 n3 m3 = w3 := by
    have h1 : [Value.slice a3 n3 m3] = [w3] := hc3
    injection h1
  have hb : Rows.uptoBulkAll [d0, d1, d2, d3] ≤ 1048576 := of_decide_eq_true hk
  simp only [Rows.uptoBulkAll] at hb
  simp only [List.append_nil, List.append_assoc] at hW'
  have hsz := subs_siz hok0
  have hcz := cols_siz hok0
  simp only at hs0 hs1 hs2 ht1
  rw [hv0] at c0 hW' ⊢
  refine (scopes_any hok0 (hI0.small (by omega)) hI0 (by omega) (by omega) l1 _ hr1 hi1 (by omega) (fun r hr => by have := ht1 r hr; omega) _ l2 hr2 hi2 _ l3 hr3 hi3 hT).mono fun e W' ⟨he, bel⟩ => ?_
  subst he
  exact ⟨_, rfl, _, _, _, [], _, [], hW', trodAll_mk1 (shut_bool Tryz.underlying4 _), (trodAll_mk4 (Below.trod Tryz.laidOut (by kernel_rfl) (of_decide_eq_true (by kernel_rfl)) c0 bel lt0) (Below.trod Tryz.laidOut (by kernel_rfl) (of_decide_eq_true (by kernel_rfl)) c1 bel lt1) (Below.trod Tryz.laidOut (by kernel_rfl) (of_decide_eq_true (by kernel_rfl)) c2 bel lt2) (Below.trod Tryz.laidOut (by kernel_rfl) (of_decide_eq_true (by kernel_rfl)) c3 bel lt3)), rfl, bel.frame _, fun h => by cases h⟩

theorem evalScopesUpto_holds : Rows.EvalScopesUptoSaid :=
  OpenClaim.holds_of_cond 4 Tryz.f4 rfl rfl rfl rfl rfl rfl rfl ⟨rfl, rfl, rfl, rfl, rfl⟩ rfl rfl rfl rfl rfl (by kernel_rfl) Tryz.func4 (by kernel_rfl)
    (of_decide_eq_true (by kernel_rfl)) (by unfold Func.isWrapper; first | (rw [if_pos (by decide +kernel)]; kernel_rfl) | (rw [if_neg (by decide +kernel)]; exact ⟨rfl, rfl⟩))
    (fun os started H enc _ F => by rw [OpenClaim.pre_eq_preRow]; exact evalScopesUpto_lifted os started H enc F)

theorem evalScopesUpto_card_holds : Rows.EvalScopesUptoCardSaid :=
  Claim7.holds_tied_plain_at .later [] _ _ _ _ evalScopesUpto_holds (fun _ h => by cases h) (by kernel_rfl) (fun _ h => by cases h) evalScopesUpto_row_tie rfl ⟨rfl, rfl⟩ (by kernel_rfl) rfl
    (fun f fn hf hfn => by
      obtain rfl : f = 4 := Option.some.inj ((show Tryz.prog.funcNamed "freshet/freshetlaw07.EvalScopes" = some 4 by kernel_rfl).symm.trans hf) |>.symm
      obtain rfl : fn = Tryz.f4 := (Option.some.inj (Tryz.func4.symm.trans hfn)).symm
      exact ⟨by kernel_rfl, fun j t ht => by
        rw [Tryz.params4] at ht
        have hm : t ∈ [30, 23, 40, 25] := by simpa using Array.mem_of_getElem? ht
        have hall : ([30, 23, 40, 25].all fun u => !Tryz.prog.wantsStandIn u) = true := by kernel_rfl
        exact (show Tryz.prog.wantsStandIn t = false by simpa using List.all_eq_true.1 hall t hm)⟩)
    (by kernel_rfl)

#print axioms evalScopesUpto_card_holds
end Go.Proofs.YtippffjhkinfoaaGreatDoor
