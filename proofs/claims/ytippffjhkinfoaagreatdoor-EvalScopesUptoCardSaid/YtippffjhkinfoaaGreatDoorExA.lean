/-
  Expressions in memory; the reference's Subs: an expression's subqueries, in order.
  Rows of scopes in memory; the reference's many and Right: may an expression be, on rows?
  The reference's Right: may an expression be, on rows?
-/
import Derived.Test.YtippffjhkinfoaaGreatDoorRefAll
import Derived.Test.YtippffjhkinfoaaGreatDoorValidAll
namespace Go.Proofs.YtippffjhkinfoaaGreatDoor
open Go.RowKit

/-- An expression: its numbers, its literal, its kids; kv, sv: the slices of kids and of queries as they lie. -/
structure Ex where
  k : Int
  t : Int
  nl : Bool
  lit : Dat
  lv : Int
  col : Int
  op : Int
  kv : Value
  sv : Value
  kids : List Ex

abbrev exVal (e : Ex) : Value := .agg #[.int .i64 e.k, .int .i64 e.t, .bool e.nl, .int .i64 e.lit.k, .int .i64 e.lit.i, .string e.lit.s, .int .i64 e.lv, .int .i64 e.col, .int .i64 e.op, e.kv, e.sv]
def encEx (e : Ex) : List Value := [.int .i64 e.k, .int .i64 e.t, .bool e.nl, .int .i64 e.lit.k, .int .i64 e.lit.i, .string e.lit.s, .int .i64 e.lv, .int .i64 e.col, .int .i64 e.op, e.kv, e.sv]
theorem hkEx (x : Ex) : (encEx x).length = 11 := rfl
abbrev ExsV (w : World) (v : Value) (L : List Ex) : Prop := ValW encEx 11 w v L
abbrev OwnEx (w : World) (base : Nat) (v : Value) (L : List Ex) : Prop := OwnG encEx 11 30 w base v L
theorem info30 : (Tryz.prog.info? 30).map (fun i => (i.zero, i.size, i.bytes)) = some (some (.agg #[.int .i64 0, .int .i64 0, .bool false, .int .i64 0, .int .i64 0, .string noText, .int .i64 0, .int .i64 0, .int .i64 0, .slice none 0 0, .slice none 0 0]), 11, 128) := by kernel_rfl

/-- What came in: the slices of queries are slices. -/
def SliceV (v : Value) : Prop := ∃ A n c, v = .slice A n c
/-- An expression lies in a world, with all its kids. -/
inductive ExOk (w : World) : Ex → Prop
  | mk (e : Ex) (hv : ExsV w e.kv e.kids) (hs : SliceV e.sv) (hk : ∀ x ∈ e.kids, ExOk w x) : ExOk w e
theorem ExOk.later {w w' : World} {e : Ex} (h : ExOk w e) (hb : Below w.heap.size w w') : ExOk w' e := by
  induction h with
  | mk e hv hs _ ih => exact ⟨e, hv.below hb, hs, fun x hx => ih x hx⟩
theorem ExOk.kv {w : World} {e : Ex} (h : ExOk w e) : ExsV w e.kv e.kids := by
  cases h with
  | mk _ hv _ _ => exact hv
theorem ExOk.sv {w : World} {e : Ex} (h : ExOk w e) : SliceV e.sv := by
  cases h with
  | mk _ _ hs _ => exact hs
theorem ExOk.kid {w : World} {e x : Ex} (h : ExOk w e) (hx : x ∈ e.kids) : ExOk w x := by
  cases h with
  | mk _ _ _ hk => exact hk x hx

mutual
/-- An expression's subqueries, in order. -/
def subsX : Ex → List Ex
  | ⟨k, t, nl, lit, lv, col, op, kv, sv, kids⟩ => if 4 ≤ k then [⟨k, t, nl, lit, lv, col, op, kv, sv, kids⟩] else if k = 3 then subsXs kids else []
def subsXs : List Ex → List Ex
  | [] => []
  | e :: l => subsX e ++ subsXs l
end
theorem subsX_eq (e : Ex) : subsX e = if 4 ≤ e.k then [e] else if e.k = 3 then subsXs e.kids else [] := by
  obtain ⟨k, t, nl, lit, lv, col, op, kv, sv, kids⟩ := e
  rw [subsX]
theorem subsXs_nil : subsXs [] = [] := by rw [subsXs]
theorem subsXs_cons (e : Ex) (l : List Ex) : subsXs (e :: l) = subsX e ++ subsXs l := by rw [subsXs]
theorem subsXs_append : ∀ a b : List Ex, subsXs (a ++ b) = subsXs a ++ subsXs b
  | [], b => by rw [subsXs_nil]; rfl
  | e :: a, b => by rw [List.cons_append, subsXs_cons, subsXs_cons, subsXs_append a b, List.append_assoc]
theorem subsXs_take (L : List Ex) (n : Nat) (h : n < L.length) : subsXs (L.take (n + 1)) = subsXs (L.take n) ++ subsX L[n] := by
  rw [List.take_add_one, List.getElem?_eq_getElem h, subsXs_append, Option.toList_some, subsXs_cons, subsXs_nil, List.append_nil]
theorem subsXs_le (L : List Ex) (n : Nat) : (subsXs (L.take n)).length ≤ (subsXs L).length := by
  have h : subsXs L = subsXs (L.take n) ++ subsXs (L.drop n) := by rw [← subsXs_append, List.take_append_drop]
  rw [h, List.length_append]; omega

theorem AtG.ex {w : World} {b off : Nat} {L : List Ex} (h : AtG encEx 11 w b off L) (n : Nat) (hn : n < L.length) :
    w.cell? ⟨b, off + n * 11, none⟩ = some (.int .i64 L[n].k) ∧ w.cell? ⟨b, off + n * 11 + 1, none⟩ = some (.int .i64 L[n].t) ∧ w.cell? ⟨b, off + n * 11 + 2, none⟩ = some (.bool L[n].nl) ∧
    w.cell? ⟨b, off + n * 11 + 3, none⟩ = some (.int .i64 L[n].lit.k) ∧ w.cell? ⟨b, off + n * 11 + 4, none⟩ = some (.int .i64 L[n].lit.i) ∧ w.cell? ⟨b, off + n * 11 + 5, none⟩ = some (.string L[n].lit.s) ∧
    w.cell? ⟨b, off + n * 11 + 6, none⟩ = some (.int .i64 L[n].lv) ∧ w.cell? ⟨b, off + n * 11 + 7, none⟩ = some (.int .i64 L[n].col) ∧ w.cell? ⟨b, off + n * 11 + 8, none⟩ = some (.int .i64 L[n].op) ∧
    w.cell? ⟨b, off + n * 11 + 9, none⟩ = some L[n].kv ∧ w.cell? ⟨b, off + n * 11 + 10, none⟩ = some L[n].sv := by
  have e := List.getElem?_eq_getElem hn
  exact ⟨by simpa using h n _ e 0 _ rfl, h n _ e 1 _ rfl, h n _ e 2 _ rfl, h n _ e 3 _ rfl, h n _ e 4 _ rfl, h n _ e 5 _ rfl, h n _ e 6 _ rfl, h n _ e 7 _ rfl, h n _ e 8 _ rfl, h n _ e 9 _ rfl, h n _ e 10 _ rfl⟩

theorem mem_subsXs {y : Ex} : ∀ {L : List Ex}, y ∈ subsXs L → ∃ x ∈ L, y ∈ subsX x
  | [], h => by rw [subsXs_nil] at h; cases h
  | e :: l, h => by
    rw [subsXs_cons, List.mem_append] at h
    rcases h with h | h
    · exact ⟨e, List.mem_cons_self, h⟩
    · obtain ⟨x, hx, hy⟩ := mem_subsXs h
      exact ⟨x, List.mem_cons_of_mem _ hx, hy⟩
theorem subsX_ok {w : World} {e : Ex} (h : ExOk w e) : ∀ y ∈ subsX e, ExOk w y := by
  induction h with
  | mk e hv hs hk ih =>
    intro y hy
    rw [subsX_eq] at hy
    split at hy
    · rw [List.mem_singleton] at hy
      subst hy
      exact ⟨_, hv, hs, hk⟩
    · split at hy
      · obtain ⟨x, hx, hy⟩ := mem_subsXs hy
        exact ih x hx y hy
      · cases hy
theorem ExsV.slice {w : World} {v : Value} {L : List Ex} (h : ExsV w v L) : ∃ A c, v = .slice A L.length c ∧ L.length ≤ c ∧ L.length ≤ maxLen := by
  rcases h with ⟨⟨A, h1⟩, h2⟩ | ⟨b, off, c, h1, hm, _, _, hc⟩
  · exact ⟨A, 0, by rw [h1, h2]; rfl, by rw [h2]; exact Nat.le_refl _, by rw [h2]; simp⟩
  · exact ⟨_, c, h1, hc, hm⟩
theorem one_ex {w : World} {L : List Ex} (h : ∀ x ∈ L, ExOk w x) : ∀ x ∈ L, ∀ u ∈ encEx x, u.oneCell' = true := by
  intro x hx u hu
  obtain ⟨A, c, hkv, _, _⟩ := (h x hx).kv.slice
  obtain ⟨B, n, d, hsv⟩ := (h x hx).sv
  unfold encEx at hu
  rw [hkv, hsv] at hu
  simp only [List.mem_cons, List.not_mem_nil, or_false] at hu
  rcases hu with rfl | rfl | rfl | rfl | rfl | rfl | rfl | rfl | rfl | rfl | rfl <;> rfl
theorem ownEx_slice {w : World} {base : Nat} {v : Value} {L : List Ex} (h : OwnEx w base v L) : ∃ A c, v = .slice A L.length c := by
  rcases OwnG.shape h with ⟨rfl, rfl⟩ | ⟨g, cap, rfl, _⟩
  · exact ⟨none, 0, rfl⟩
  · exact ⟨_, _, rfl⟩

/-- What Subs leaves. -/
def SubsPost (e : Ex) (w : World) (x : Ending) (w' : World) : Prop := ∃ A c, x = .returned (.slice A (subsX e).length c) ∧ OwnEx w' w.heap.size (.slice A (subsX e).length c) (subsX e) ∧ Below w.heap.size w w'

set_option maxRecDepth 100000 in
set_option maxHeartbeats 4000000 in
theorem subs_any {w0 : World} {e : Ex} (h : ExOk w0 e) : (subsX e).length ≤ 1048576 → ∀ w : World, Below w0.heap.size w0 w → Calls Tryz.prog 7 #[exVal e] w (SubsPost e w) := by
  induction h with
  | mk e hv hs hk ih =>
    intro hl w hb0
    obtain ⟨sA, sn, sc, hsv⟩ := hs
    have IH := Lib.hid ih
    have HK := Lib.hid hk
    have HV := Lib.hid hv
    have HL := Lib.hid hl
    have hkv := hv.slice
    clear ih hv hl hk
    obtain ⟨k, t, nl, ⟨lk, li, ls⟩, lv, col, op, kv, sv, kids⟩ := e
    simp only at hsv hkv
    subst hsv
    obtain ⟨A, c, rfl, hc, hm⟩ := hkv
    by_cases h4 : 4 ≤ k
    · have HX : Hid (subsX ⟨k, t, nl, ⟨lk, li, ls⟩, lv, col, op, .slice A kids.length c, .slice sA sn sc, kids⟩ = [⟨k, t, nl, ⟨lk, li, ls⟩, lv, col, op, .slice A kids.length c, .slice sA sn sc, kids⟩]) := by unfold Hid; rw [subsX_eq]; exact if_pos h4
      go_enter Tryz.func7, Tryz.ntmps7
      go_wp2_with fail
      refine bodyPost_ret (v := .slice (some ⟨w.heap.size + 1, 0, none⟩) 1 1) (by simp [results, Tryz.results7, go_sem]) rfl ⟨some ⟨w.heap.size + 1, 0, none⟩, 1, by rw [HX.out]; rfl, ?_, ((Below.refl _ _).alloc (Nat.le_refl _) _).alloc (by simp) _⟩
      rw [HX.out]
      have := World.ownsRow_lit (e := 30) (size := 11) (base := w.heap.size) (w.alloc (.cells #[.int .i64 k, .int .i64 t, .bool nl, .int .i64 lk, .int .i64 li, .string ls, .int .i64 lv, .int .i64 col, .int .i64 op, .slice A kids.length c, .slice sA sn sc] 30)) #[.int .i64 k, .int .i64 t, .bool nl, .int .i64 lk, .int .i64 li, .string ls, .int .i64 lv, .int .i64 col, .int .i64 op, .slice A kids.length c, .slice sA sn sc] 1 (by simp) (by unfold maxLen; decide) rfl
      simpa [OwnG, encEx] using this
    · by_cases h3 : k = 3
      · have HX : Hid (subsX ⟨k, t, nl, ⟨lk, li, ls⟩, lv, col, op, .slice A kids.length c, .slice sA sn sc, kids⟩ = subsXs kids) := by unfold Hid; rw [subsX_eq]; exact (if_neg h4).trans (if_pos h3)
        obtain ⟨i0, hi, hz0, hz1, hz2⟩ := info_parts info30
        have HI := Lib.hid hi
        have HZ0 := Lib.hid hz0
        have HZ1 := Lib.hid hz1
        have HZ2 := Lib.hid hz2
        clear hi hz0 hz1 hz2
        subst h3
        have hb1 := (Below.refl w.heap.size w).alloc (Nat.le_refl _) (.cells #[.int .i64 3, .int .i64 t, .bool nl, .int .i64 lk, .int .i64 li, .string ls, .int .i64 lv, .int .i64 col, .int .i64 op, .slice A kids.length c, .slice sA sn sc] 30)
        have hz1 := (Blk.new w #[.int .i64 3, .int .i64 t, .bool nl, .int .i64 lk, .int .i64 li, .string ls, .int .i64 lv, .int .i64 col, .int .i64 op, .slice A kids.length c, .slice sA sn sc] 30).lt
        have hb2 := hb1.alloc hb1.size (.cells #[] 30)
        go_enter Tryz.func7, Tryz.ntmps7
        go_wp2_with fail
        go_loopw [3, 19] (fun a i wr => ∃ n : Nat, i = .int .i64 n ∧ n ≤ kids.length ∧ Below w.heap.size w wr ∧ w.heap.size + 1 ≤ wr.heap.size ∧ Hid (OwnEx wr (w.heap.size + 1) a (subsXs (kids.take n)))) (fun _ i _ => kids.length - (intOf i).toNat)
        case atStart => exact ⟨0, rfl, Nat.zero_le _, hb2, by simp, by unfold Hid; rw [List.take_zero, subsXs_nil]; have := OwnG.lit0 (enc := encEx) (k := 11) 30 _ (w.heap.size + 1) hz1; simpa using this⟩
        case round =>
          clear hb1 hb2 hz1
          obtain ⟨n, rfl, hn, hb, hz, HO⟩ := hrel
          by_cases hlt : n < kids.length
          · rcases HV.out with ⟨_, h0⟩ | ⟨b, off, c', e, _, hbl, hat, _⟩
            · rw [h0] at hlt; simp at hlt
            · injection e with e1 e2 e3
              subst e1 e3
              have hbw := hb0.trans (hb.mono hb0.size)
              obtain ⟨x0, x1, x2, x3, x4, x5, x6, x7, x8, x9, x10⟩ := (hat.block (hbw.block b hbl)).ex n hlt
              have HM : Hid (kids[n] ∈ kids) := List.getElem_mem hlt
              have HT := Lib.hid (subsXs_take kids n hlt)
              have hle := subsXs_le kids (n + 1)
              have hll := HL.out
              rw [HX.out] at hll
              rw [HT.out, List.length_append] at hle
              have hl1 : (subsX kids[n]).length ≤ 1048576 := by omega
              have hl2 : (subsXs (kids.take n)).length + (subsX kids[n]).length ≤ 1048576 := by omega
              have HC := Lib.hid (IH.out kids[n] HM.out hl1)
              have HOK := HK.out kids[n] HM.out
              have HON := Lib.hid (subsX_ok HOK)
              obtain ⟨Ak, ck, hkv, _, _⟩ := HOK.kv.slice
              obtain ⟨As, ns, cs, hsv⟩ := HOK.sv
              have hm9 : (n : Int) + 1 ≤ 9223372036854775807 := by unfold maxLen at hm; omega
              have HL2 := Lib.hid hl2
              clear hat hle hll hl1 hl2 HOK hn HX HL
              revert HT HC HON hkv hsv x0 x1 x2 x3 x4 x5 x6 x7 x8 x9 x10 HM HL2
              generalize kids[n] = x
              intro x0 x1 x2 x3 x4 x5 x6 x7 x8 x9 x10 HM HT HC HON hkv hsv HL2
              rw [hkv] at x9
              rw [hsv] at x10
              have HC2 : Hid (∀ (w : World), Below w0.heap.size w0 w → Calls Tryz.prog 7 #[.agg #[.int .i64 x.k, .int .i64 x.t, .bool x.nl, .int .i64 x.lit.k, .int .i64 x.lit.i, .string x.lit.s, .int .i64 x.lv, .int .i64 x.col, .int .i64 x.op, .slice Ak x.kids.length ck, .slice As ns cs]] w (SubsPost x w)) := by
                have h := HC.out
                unfold exVal at h
                rw [hkv, hsv] at h
                exact h
              have hbo := hb.alloc (by omega) (.cells #[.int .i64 x.k, .int .i64 x.t, .bool x.nl, .int .i64 x.lit.k, .int .i64 x.lit.i, .string x.lit.s, .int .i64 x.lv, .int .i64 x.col, .int .i64 x.op, .slice Ak x.kids.length ck, .slice As ns cs] 30)
              have hbwo := hb0.trans (hbo.mono hb0.size)
              have HOo := Lib.hid (HO.out.alloc (.cells #[.int .i64 x.k, .int .i64 x.t, .bool x.nl, .int .i64 x.lit.k, .int .i64 x.lit.i, .string x.lit.s, .int .i64 x.lv, .int .i64 x.col, .int .i64 x.op, .slice Ak x.kids.length ck, .slice As ns cs] 30))
              have hzo : w.heap.size + 1 ≤ (wr.alloc (.cells #[.int .i64 x.k, .int .i64 x.t, .bool x.nl, .int .i64 x.lit.k, .int .i64 x.lit.i, .string x.lit.s, .int .i64 x.lv, .int .i64 x.col, .int .i64 x.op, .slice Ak x.kids.length ck, .slice As ns cs] 30)).heap.size := by simp; omega
              clear HC hkv hsv HO
              go_wp2_with (first
                | (go_at_call 7; have hC := HC2.out _ hbwo; (with_reducible refine hC.mono ?_); clear hC; rintro e w7 ⟨A7, c7, rfl, ho7, hb7⟩; have h7 := hbo.trans (hb7.mono hbo.size); have hz7 : w.heap.size + 1 ≤ w7.heap.size := Nat.le_trans hzo hb7.size; have HO7 := Lib.hid (HOo.out.below hb7); have HV7 := Lib.hid (OwnG.val hkEx ho7))
                | (at_builtin; refine wpList_append_g hkEx (by decide) 22 30 i0 _ 128 Tryz.underlying22 HI.out HZ0.out HZ1.out HZ2.out rfl _ rfl _ _ rfl (w.heap.size + 1) _ _ (subsXs (kids.take n)) (subsX x) rfl rfl HO7.out HV7.out (one_ex HON.out) (by have := HL2.out; unfold maxLen; omega) (by have := HL2.out; omega) hz7 ?_; intro v8 w8 ho8 hg8))
              have hgr := OwnG.grown HO7.out hz7 hg8
              refine ⟨⟨n + 1, rfl, hlt, h7.trans (hgr.mono (by omega)), Nat.le_trans hz7 hgr.size, by unfold Hid; rw [HT.out]; exact ho8⟩, ?_⟩
              simp only [intOf]
              omega
          · have hnn : n = kids.length := by omega
            have HQ : Hid (OwnEx wr (w.heap.size + 1) u3 (subsXs kids)) := by
              have := HO.out
              rw [hnn, List.take_length] at this
              exact this
            obtain ⟨A9, c9, rfl⟩ := ownEx_slice HQ.out
            clear HO hnn
            go_wp2_with fail
            refine bodyPost_ret (v := .slice A9 (subsXs kids).length c9) (by simp [results, Tryz.results7, go_sem]) rfl ⟨A9, c9, by rw [HX.out], ?_, hb⟩
            rw [HX.out]
            exact HQ.out.more (by omega)
      · have HX : Hid (subsX ⟨k, t, nl, ⟨lk, li, ls⟩, lv, col, op, .slice A kids.length c, .slice sA sn sc, kids⟩ = []) := by unfold Hid; rw [subsX_eq]; exact (if_neg h4).trans (if_neg h3)
        have e3 : (k == 3) = false := beq_eq_false_iff_ne.2 h3
        go_enter Tryz.func7, Tryz.ntmps7
        go_wp2_with fail
        refine bodyPost_ret (v := .slice (some ⟨w.heap.size + 1, 0, none⟩) 0 0) (by simp [results, Tryz.results7, go_sem]) rfl ⟨some ⟨w.heap.size + 1, 0, none⟩, 0, by rw [HX.out]; rfl, ?_, ((Below.refl _ _).alloc (Nat.le_refl _) _).alloc (by simp) _⟩
        rw [HX.out]
        have := OwnG.lit0 (enc := encEx) (k := 11) 30 (w.alloc (.cells #[.int .i64 k, .int .i64 t, .bool nl, .int .i64 lk, .int .i64 li, .string ls, .int .i64 lv, .int .i64 col, .int .i64 op, .slice A kids.length c, .slice sA sn sc] 30)) w.heap.size (by simp)
        simpa using this

end Go.Proofs.YtippffjhkinfoaaGreatDoor

namespace Go.Proofs.YtippffjhkinfoaaGreatDoor
open Go.RowKit

/-- A scope's row: its slice as it lies, and its values. -/
structure Rw where
  v : Value
  l : List Dat
def encRw (r : Rw) : List Value := [r.v]
theorem hkRw (x : Rw) : (encRw x).length = 1 := rfl
/-- The scopes' rows lie in a world. -/
def EnvV (w : World) (v : Value) (L : List Rw) : Prop := ValW encRw 1 w v L ∧ ∀ r ∈ L, DatV w r.v r.l
theorem EnvV.below {w w' : World} {v : Value} {L : List Rw} (h : EnvV w v L) (hb : Below w.heap.size w w') : EnvV w' v L := ⟨h.1.below hb, fun r hr => (h.2 r hr).below hb⟩
theorem EnvV.slice {w : World} {v : Value} {L : List Rw} (h : EnvV w v L) : ∃ A c, v = .slice A L.length c ∧ L.length ≤ c ∧ L.length ≤ maxLen := by
  rcases h.1 with ⟨⟨A, h1⟩, h2⟩ | ⟨b, off, c, h1, hm, _, _, hc⟩
  · exact ⟨A, 0, by rw [h1, h2]; rfl, by rw [h2]; exact Nat.le_refl _, by rw [h2]; simp⟩
  · exact ⟨_, c, h1, hc, hm⟩
abbrev Env := List Rw

/-- So many kids has an operator. -/
def manyX (op : Int) (n : Nat) : Bool := if op = 16 then decide (2 ≤ n) else if op = 17 then decide (1 ≤ n) else decide (0 < n ∧ (n : Int) = arityR op)
/-- A column's value. -/
def colX (lv col : Int) (env : Env) : Option Dat := if 0 ≤ lv ∧ 0 ≤ col then (env[lv.toNat]?).bind (fun r => r.l[col.toNat]?) else none
mutual
def rightX (env : Env) : Ex → Bool
  | ⟨k, _, _, lit, lv, col, op, _, _, kids⟩ =>
    if k = 1 then rightD lit
    else if k = 2 then (match colX lv col env with | some d => rightD d | none => false)
    else if k = 3 then rightXs env kids && manyX op kids.length
    else decide (4 ≤ k ∧ k ≤ 6)
def rightXs (env : Env) : List Ex → Bool
  | [] => true
  | e :: l => rightX env e && rightXs env l
end
theorem rightX_eq (env : Env) (e : Ex) : rightX env e = if e.k = 1 then rightD e.lit else if e.k = 2 then (match colX e.lv e.col env with | some d => rightD d | none => false) else if e.k = 3 then rightXs env e.kids && manyX e.op e.kids.length else decide (4 ≤ e.k ∧ e.k ≤ 6) := by
  obtain ⟨k, t, nl, lit, lv, col, op, kv, sv, kids⟩ := e
  rw [rightX]
theorem rightXs_all (env : Env) : ∀ L : List Ex, rightXs env L = L.all (rightX env)
  | [] => by rw [rightXs]; rfl
  | e :: l => by rw [rightXs, rightXs_all env l]; rfl

set_option maxRecDepth 100000 in
set_option maxHeartbeats 8000000 in
theorem manyX_any (op : Int) (n : Nat) (w : World) :
    Calls Tryz.prog 15 #[.int .i64 op, .int .i64 n] w fun e w' => e = .returned (.bool (manyX op n)) ∧ w' = w := by
  have HM := Lib.hid (fun w => many_any op w)
  unfold manyX
  by_cases h1 : op = 16
  · subst h1
    rw [if_pos rfl]
    have e : decide (2 ≤ n) = decide ((2 : Int) ≤ n) := by rw [decide_eq_decide]; omega
    rw [e]
    go_enter Tryz.func15, Tryz.ntmps15
    go_wp2_with fail
    go_ret
    exact ⟨rfl, rfl⟩
  · have e1 : (op == 16) = false := beq_eq_false_iff_ne.2 h1
    rw [if_neg h1]
    by_cases h2 : op = 17
    · subst h2
      rw [if_pos rfl]
      have e : decide (1 ≤ n) = decide ((1 : Int) ≤ n) := by rw [decide_eq_decide]; omega
      rw [e]
      go_enter Tryz.func15, Tryz.ntmps15
      go_wp2_with fail
      go_ret
      exact ⟨rfl, rfl⟩
    · have e2 : (op == 17) = false := beq_eq_false_iff_ne.2 h2
      rw [if_neg h2]
      clear h1 h2
      by_cases h0 : 0 < n
      · have h0' : (0 : Int) < n := by omega
        by_cases hq : (n : Int) = arityR op
        · have hq' : ((n : Int) == arityR op) = true := by simpa using hq
          rw [decide_eq_true ⟨h0, hq⟩]
          revert HM hq'
          generalize arityR op = m
          intro HM hq'
          clear hq h0
          go_enter Tryz.func15, Tryz.ntmps15
          go_wp2_with (go_at_call 21; (with_reducible refine (HM.out _).mono ?_); rintro e w' ⟨rfl, rfl⟩)
          go_ret
          exact ⟨rfl, rfl⟩
        · have hq' : ((n : Int) == arityR op) = false := by simpa using hq
          rw [decide_eq_false (fun h => hq h.2)]
          revert HM hq'
          generalize arityR op = m
          intro HM hq'
          clear hq h0
          go_enter Tryz.func15, Tryz.ntmps15
          go_wp2_with (go_at_call 21; (with_reducible refine (HM.out _).mono ?_); rintro e w' ⟨rfl, rfl⟩)
          go_ret
          exact ⟨rfl, rfl⟩
      · have h0' : ¬ (0 : Int) < n := by omega
        rw [decide_eq_false (fun h => h0 h.1)]
        clear h0
        go_enter Tryz.func15, Tryz.ntmps15
        go_wp2_with fail
        go_ret
        exact ⟨rfl, rfl⟩

theorem AtG.rw {w : World} {b off : Nat} {L : List Rw} (h : AtG encRw 1 w b off L) (n : Nat) (hn : n < L.length) : w.cell? ⟨b, off + n, none⟩ = some L[n].v := by
  have := h n _ (List.getElem?_eq_getElem hn) 0 _ rfl
  simpa using this
theorem DatV.slice {w : World} {v : Value} {L : List Dat} (h : DatV w v L) : ∃ A c, v = .slice A L.length c ∧ L.length ≤ c ∧ L.length ≤ maxLen := h.len

/-- A row of the scopes. -/
theorem EnvV.row {w : World} {A : Option Addr} {c : Nat} {L : List Rw} (h : EnvV w (.slice A L.length c) L) (n : Nat) (hn : n < L.length) : ∃ b off B m, A = some ⟨b, off, none⟩ ∧ b < w.heap.size ∧ w.cell? ⟨b, off + n, none⟩ = some (.slice B L[n].l.length m) ∧ DatV w (.slice B L[n].l.length m) L[n].l := by
  obtain ⟨B, m, hv, _, _⟩ := (h.2 L[n] (List.getElem_mem hn)).slice
  rcases h.1 with ⟨_, h0⟩ | ⟨b, off, c', e, _, hb, hat, _⟩
  · rw [h0] at hn; simp at hn
  · injection e with e1 _ _
    refine ⟨b, off, B, m, e1, hb, ?_, ?_⟩
    · rw [hat.rw n hn, hv]
    · rw [← hv]; exact h.2 _ (List.getElem_mem hn)
theorem DatV.nth {w : World} {A : Option Addr} {c : Nat} {L : List Dat} (h : DatV w (.slice A L.length c) L) (n : Nat) (hn : n < L.length) : ∃ b off, A = some ⟨b, off, none⟩ ∧ b < w.heap.size ∧ w.cell? ⟨b, off + n * 3, none⟩ = some (.int .i64 L[n].k) ∧ w.cell? ⟨b, off + n * 3 + 1, none⟩ = some (.int .i64 L[n].i) ∧ w.cell? ⟨b, off + n * 3 + 2, none⟩ = some (.string L[n].s) := by
  rcases h with ⟨_, h0⟩ | ⟨b, off, c', e, _, hb, hat, _⟩
  · rw [h0] at hn; simp at hn
  · injection e with e1 _ _
    exact ⟨b, off, e1, hb, hat.dat n hn⟩

set_option maxRecDepth 100000 in
set_option maxHeartbeats 8000000 in
theorem exRight_lit (K t : Int) (nl : Bool) (lit : Dat) (lv col op : Int) (A sA : Option Addr) (n c sn sc : Nat) (vE : Value) (hvE : SliceV vE) (hK : K = 1) (w : World) :
    Calls Tryz.prog 6 #[.agg #[.int .i64 K, .int .i64 t, .bool nl, .int .i64 lit.k, .int .i64 lit.i, .string lit.s, .int .i64 lv, .int .i64 col, .int .i64 op, .slice A n c, .slice sA sn sc], vE] w (RightPost (rightD lit) w) := by
  subst hK
  obtain ⟨Ae, ne, ce, rfl⟩ := hvE
  have HR := Lib.hid (fun w => refRight_any lit.k lit.i lit.s w)
  have hb1 := (Below.refl w.heap.size w).alloc (Nat.le_refl _) (.cells #[.int .i64 1, .int .i64 t, .bool nl, .int .i64 lit.k, .int .i64 lit.i, .string lit.s, .int .i64 lv, .int .i64 col, .int .i64 op, .slice A n c, .slice sA sn sc] 30)
  go_enter Tryz.func6, Tryz.ntmps6
  go_wp2_with (go_at_call 14; (with_reducible refine (HR.out _).mono ?_); rintro e w5 ⟨rfl, hb5⟩)
  go_ret
  exact ⟨rfl, hb1.trans (hb5.mono hb1.size)⟩

set_option maxRecDepth 100000 in
set_option maxHeartbeats 8000000 in
theorem exRight_other (K t : Int) (nl : Bool) (lit : Dat) (lv col op : Int) (A sA : Option Addr) (n c sn sc : Nat) (vE : Value) (hvE : SliceV vE) (h1 : K ≠ 1) (h2 : K ≠ 2) (h3 : K ≠ 3) (w : World) :
    Calls Tryz.prog 6 #[.agg #[.int .i64 K, .int .i64 t, .bool nl, .int .i64 lit.k, .int .i64 lit.i, .string lit.s, .int .i64 lv, .int .i64 col, .int .i64 op, .slice A n c, .slice sA sn sc], vE] w (RightPost (decide (4 ≤ K ∧ K ≤ 6)) w) := by
  obtain ⟨Ae, ne, ce, rfl⟩ := hvE
  have e1 : (K == 1) = false := beq_eq_false_iff_ne.2 h1
  have e2 : (K == 2) = false := beq_eq_false_iff_ne.2 h2
  have e3 : (K != 3) = true := by simpa using h3
  have hb1 := (Below.refl w.heap.size w).alloc (Nat.le_refl _) (.cells #[.int .i64 K, .int .i64 t, .bool nl, .int .i64 lit.k, .int .i64 lit.i, .string lit.s, .int .i64 lv, .int .i64 col, .int .i64 op, .slice A n c, .slice sA sn sc] 30)
  clear h1 h2 h3
  obtain ⟨Z, hZ⟩ : ∃ Z, decide (4 ≤ K ∧ K ≤ 6) = Z := ⟨_, rfl⟩
  rw [hZ]
  by_cases h4 : 4 ≤ K
  · have HQ : Hid (Z = decide (K ≤ 6)) := by unfold Hid; rw [← hZ, decide_eq_decide]; exact ⟨fun h => h.2, fun h => ⟨h4, h⟩⟩
    clear hZ
    go_enter Tryz.func6, Tryz.ntmps6
    go_wp2_with fail
    go_ret
    exact ⟨by rw [HQ.out]; rfl, hb1⟩
  · have HQ : Hid (Z = false) := by unfold Hid; rw [← hZ]; exact decide_eq_false (fun h => h4 h.1)
    clear hZ
    have h4' : decide (4 ≤ K) = false := decide_eq_false h4
    go_enter Tryz.func6, Tryz.ntmps6
    go_wp2_with fail
    go_ret
    exact ⟨by rw [HQ.out]; rfl, hb1⟩

theorem colX_some {lv col : Int} {env : Env} (i j : Nat) (hi : lv = i) (hj : col = j) (h1 : i < env.length) (h2 : j < env[i].l.length) : colX lv col env = some env[i].l[j] := by
  subst hi hj
  unfold colX
  rw [if_pos ⟨by omega, by omega⟩]
  simp only [Int.toNat_natCast]
  rw [List.getElem?_eq_getElem h1]
  simp only [Option.bind_some]
  rw [List.getElem?_eq_getElem h2]
theorem colX_none {lv col : Int} {env : Env} (h : lv < 0 ∨ (env.length : Int) ≤ lv ∨ col < 0 ∨ ∃ i : Nat, lv = i ∧ ∃ h1 : i < env.length, (env[i].l.length : Int) ≤ col) : colX lv col env = none := by
  unfold colX
  by_cases hs : 0 ≤ lv ∧ 0 ≤ col
  · rw [if_pos hs]
    rcases h with h | h | h | ⟨i, rfl, h1, h⟩
    · omega
    · rw [List.getElem?_eq_none (by omega)]; rfl
    · omega
    · simp only [Int.toNat_natCast]
      rw [List.getElem?_eq_getElem h1]
      simp only [Option.bind_some]
      rw [List.getElem?_eq_none (by omega)]
  · rw [if_neg hs]

set_option maxRecDepth 100000 in
set_option maxHeartbeats 8000000 in
theorem exRight_col (t : Int) (nl : Bool) (lit : Dat) (lv col op : Int) (A sA : Option Addr) (n c sn sc : Nat) (vE : Value) (env : Env) (w : World) (hE : EnvV w vE env) :
    Calls Tryz.prog 6 #[.agg #[.int .i64 2, .int .i64 t, .bool nl, .int .i64 lit.k, .int .i64 lit.i, .string lit.s, .int .i64 lv, .int .i64 col, .int .i64 op, .slice A n c, .slice sA sn sc], vE] w (RightPost (match colX lv col env with | some d => rightD d | none => false) w) := by
  obtain ⟨Ae, ce, rfl, hce, hme⟩ := hE.slice
  have hb1 := (Below.refl w.heap.size w).alloc (Nat.le_refl _) (.cells #[.int .i64 2, .int .i64 t, .bool nl, .int .i64 lit.k, .int .i64 lit.i, .string lit.s, .int .i64 lv, .int .i64 col, .int .i64 op, .slice A n c, .slice sA sn sc] 30)
  by_cases h1 : lv < 0
  · rw [colX_none (.inl h1)]
    go_enter Tryz.func6, Tryz.ntmps6
    go_wp2_with fail
    go_ret
    exact ⟨rfl, hb1⟩
  · have h1' : decide (lv < 0) = false := decide_eq_false h1
    obtain ⟨i, rfl⟩ : ∃ i : Nat, lv = i := ⟨lv.toNat, by omega⟩
    clear h1
    by_cases h2 : (env.length : Int) ≤ i
    · rw [colX_none (.inr (.inl h2))]
      go_enter Tryz.func6, Tryz.ntmps6
      go_wp2_with fail
      go_ret
      exact ⟨rfl, hb1⟩
    · have hi : i < env.length := by omega
      have h2' : decide ((env.length : Int) ≤ i) = false := decide_eq_false h2
      have hi' : (i : Int) < env.length := by omega
      have hi0 : (0 : Int) ≤ i := by omega
      obtain ⟨b, off, B, m, rfl, hbl, hcell, hrow⟩ := hE.row i hi
      have hcell1 := (hb1.cell (p := ⟨b, off + i, none⟩) hbl).trans hcell
      have hrow1 := hrow.below hb1
      clear h2 hE hcell hrow
      by_cases h3 : col < 0
      · rw [colX_none (.inr (.inr (.inl h3)))]
        go_enter Tryz.func6, Tryz.ntmps6
        go_wp2_with fail
        go_ret
        exact ⟨rfl, hb1⟩
      · have h3' : (0 : Int) ≤ col := by omega
        obtain ⟨j, rfl⟩ : ∃ j : Nat, col = j := ⟨col.toNat, by omega⟩
        by_cases h4 : (env[i].l.length : Int) ≤ j
        · rw [colX_none (.inr (.inr (.inr ⟨i, rfl, hi, h4⟩)))]
          have h4' : ¬ j < env[i].l.length := by omega
          clear h4 h3
          go_enter Tryz.func6, Tryz.ntmps6
          go_wp2_with fail
          go_ret
          exact ⟨rfl, hb1⟩
        · have hj : j < env[i].l.length := by omega
          rw [colX_some i j rfl rfl hi hj]
          have hj' : (j : Int) < env[i].l.length := by omega
          obtain ⟨b2, off2, rfl, hbl2, x0, x1, x2⟩ := DatV.nth hrow1 j hj
          revert x0 x1 x2 hj'
          have HR := Lib.hid (fun w => refRight_any env[i].l[j].k env[i].l[j].i env[i].l[j].s w)
          generalize env[i].l[j] = d at HR ⊢
          intro x0 x1 x2 hj'
          clear h4 h3
          go_enter Tryz.func6, Tryz.ntmps6
          go_wp2_with (go_at_call 14; (with_reducible refine (HR.out _).mono ?_); rintro e w5 ⟨rfl, hb5⟩)
          go_ret
          exact ⟨rfl, hb1.trans (hb5.mono hb1.size)⟩

end Go.Proofs.YtippffjhkinfoaaGreatDoor

namespace Go.Proofs.YtippffjhkinfoaaGreatDoor
open Go.RowKit

theorem allx_take {p : Ex → Bool} {L : List Ex} {n : Nat} (hn : n < L.length) (h : (L.take n).all p = true) (hp : p L[n] = true) : (L.take (n + 1)).all p = true := by
  rw [List.take_add_one, List.all_append, h, List.getElem?_eq_getElem hn]
  simpa using hp
theorem allx_not {p : Ex → Bool} {L : List Ex} {n : Nat} (hn : n < L.length) (hp : p L[n] = false) : L.all p = false := by
  rw [List.all_eq_false]
  exact ⟨_, List.getElem_mem hn, by simp [hp]⟩

set_option maxRecDepth 100000 in
set_option maxHeartbeats 8000000 in
theorem exRight_any {w0 : World} {e : Ex} (h : ExOk w0 e) (env : Env) (vE : Value) (hE : EnvV w0 vE env) : ∀ w : World, Below w0.heap.size w0 w → Calls Tryz.prog 6 #[exVal e, vE] w (RightPost (rightX env e) w) := by
  induction h with
  | mk e hv hs hk ih =>
    intro w hb0
    obtain ⟨sA, sn, sc, hsv⟩ := hs
    have hkv := hv.slice
    have HV := Lib.hid hv
    have HK := Lib.hid hk
    clear hv hk
    rw [rightX_eq]
    obtain ⟨k, t, nl, ⟨lk, li, ls⟩, lv, col, op, kv, sv, kids⟩ := e
    simp only at hsv hkv ih
    subst hsv
    obtain ⟨A, c, rfl, hc, hm⟩ := hkv
    simp only
    by_cases h1 : k = 1
    · rw [if_pos h1]
      obtain ⟨Ae, ce, hve, _, _⟩ := hE.slice
      exact exRight_lit k t nl ⟨lk, li, ls⟩ lv col op A sA kids.length c sn sc vE ⟨Ae, env.length, ce, hve⟩ h1 w
    · rw [if_neg h1]
      by_cases h2 : k = 2
      · subst h2
        rw [if_pos rfl]
        exact exRight_col t nl ⟨lk, li, ls⟩ lv col op A sA kids.length c sn sc vE env w (hE.below hb0)
      · rw [if_neg h2]
        by_cases h3 : k = 3
        · subst h3
          rw [if_pos rfl, rightXs_all]
          obtain ⟨Ae, ce, rfl, hce, hme⟩ := hE.slice
          have IH := Lib.hid ih
          have HMY := Lib.hid (fun w => manyX_any op kids.length w)
          clear ih h1 h2 hE
          have hb1 := (Below.refl w.heap.size w).alloc (Nat.le_refl _) (.cells #[.int .i64 3, .int .i64 t, .bool nl, .int .i64 lk, .int .i64 li, .string ls, .int .i64 lv, .int .i64 col, .int .i64 op, .slice A kids.length c, .slice sA sn sc] 30)
          have bX := Blk.new w #[.int .i64 3, .int .i64 t, .bool nl, .int .i64 lk, .int .i64 li, .string ls, .int .i64 lv, .int .i64 col, .int .i64 op, .slice A kids.length c, .slice sA sn sc] 30
          go_enter Tryz.func6, Tryz.ntmps6
          go_wp2_with fail
          go_loopw [64] (fun i wr => ∃ n : Nat, i = .int .i64 n ∧ n ≤ kids.length ∧ Hid ((kids.take n).all (rightX env) = true) ∧ Below w.heap.size w wr ∧ Blk wr w.heap.size #[.int .i64 3, .int .i64 t, .bool nl, .int .i64 lk, .int .i64 li, .string ls, .int .i64 lv, .int .i64 col, .int .i64 op, .slice A kids.length c, .slice sA sn sc] 30) (fun i _ => kids.length - (intOf i).toNat)
          case atStart => exact ⟨0, rfl, Nat.zero_le _, rfl, hb1, bX⟩
          case round =>
            clear hb1 bX
            obtain ⟨n, rfl, hn, HA, hb, bX⟩ := hrel
            by_cases hlt : n < kids.length
            · rcases HV.out with ⟨_, h0⟩ | ⟨b, off, c', e, _, hbl, hat, _⟩
              · rw [h0] at hlt; simp at hlt
              · injection e with e1 e2 e3
                subst e1 e3
                have hbw := hb0.trans (hb.mono hb0.size)
                obtain ⟨x0, x1, x2, x3, x4, x5, x6, x7, x8, x9, x10⟩ := (hat.block (hbw.block b hbl)).ex n hlt
                have HM : Hid (kids[n] ∈ kids) := List.getElem_mem hlt
                have HP : Hid (rightX env kids[n] = true → (kids.take (n + 1)).all (rightX env) = true) := fun hp => allx_take hlt HA.out hp
                have HNP : Hid (rightX env kids[n] = false → kids.all (rightX env) = false) := fun hp => allx_not hlt hp
                have HC := Lib.hid (IH.out kids[n] HM.out)
                have HOK := HK.out kids[n] HM.out
                obtain ⟨Ak, ck, hkv, _, _⟩ := HOK.kv.slice
                obtain ⟨As, ns, cs, hsv⟩ := HOK.sv
                have hm9 : (n : Int) + 1 ≤ 9223372036854775807 := by unfold maxLen at hm; omega
                clear hat HOK hn HA HM
                revert HC HP HNP hkv hsv x0 x1 x2 x3 x4 x5 x6 x7 x8 x9 x10
                generalize kids[n] = x
                intro x0 x1 x2 x3 x4 x5 x6 x7 x8 x9 x10 HP HNP HC hkv hsv
                rw [hkv] at x9
                rw [hsv] at x10
                have hbo := hb.alloc hb.size (.cells #[.int .i64 x.k, .int .i64 x.t, .bool x.nl, .int .i64 x.lit.k, .int .i64 x.lit.i, .string x.lit.s, .int .i64 x.lv, .int .i64 x.col, .int .i64 x.op, .slice Ak x.kids.length ck, .slice As ns cs] 30)
                have hbwo := hb0.trans (hbo.mono hb0.size)
                have bXo := bX.alloc (.cells #[.int .i64 x.k, .int .i64 x.t, .bool x.nl, .int .i64 x.lit.k, .int .i64 x.lit.i, .string x.lit.s, .int .i64 x.lv, .int .i64 x.col, .int .i64 x.op, .slice Ak x.kids.length ck, .slice As ns cs] 30)
                have HC2 : Hid (Calls Tryz.prog 6 #[.agg #[.int .i64 x.k, .int .i64 x.t, .bool x.nl, .int .i64 x.lit.k, .int .i64 x.lit.i, .string x.lit.s, .int .i64 x.lv, .int .i64 x.col, .int .i64 x.op, .slice Ak x.kids.length ck, .slice As ns cs], .slice Ae env.length ce] (wr.alloc (.cells #[.int .i64 x.k, .int .i64 x.t, .bool x.nl, .int .i64 x.lit.k, .int .i64 x.lit.i, .string x.lit.s, .int .i64 x.lv, .int .i64 x.col, .int .i64 x.op, .slice Ak x.kids.length ck, .slice As ns cs] 30)) (RightPost (rightX env x) (wr.alloc (.cells #[.int .i64 x.k, .int .i64 x.t, .bool x.nl, .int .i64 x.lit.k, .int .i64 x.lit.i, .string x.lit.s, .int .i64 x.lv, .int .i64 x.col, .int .i64 x.op, .slice Ak x.kids.length ck, .slice As ns cs] 30)))) := by
                  have h := HC.out _ hbwo
                  unfold exVal at h
                  rw [hkv, hsv] at h
                  exact h
                clear HC hkv hsv
                cases hr : rightX env x
                · rw [hr] at HC2
                  have HQ := Lib.hid (HNP.out hr)
                  clear hr HP HNP
                  go_wp2_with (go_at_call 6; (with_reducible refine HC2.out.mono ?_); rintro e w7 ⟨rfl, hb7⟩)
                  go_ret
                  exact ⟨by rw [HQ.out]; rfl, hbo.trans (hb7.mono hbo.size)⟩
                · rw [hr] at HC2
                  have HQ := Lib.hid (HP.out hr)
                  clear hr HP HNP
                  go_wp2_with (go_at_call 6; (with_reducible refine HC2.out.mono ?_); rintro e w7 ⟨rfl, hb7⟩)
                  refine ⟨⟨n + 1, by go_num, hlt, HQ, hbo.trans (hb7.mono hbo.size), bXo.below hb7⟩, ?_⟩
                  simp [intOf]
                  try go_num
            · have hnn : n = kids.length := by omega
              have HQ : Hid (kids.all (rightX env) = true) := by
                have := HA.out
                rw [hnn, List.take_length] at this
                exact this
              have y8 := bX.cell 8
              have y9 := bX.cell 9
              simp only [List.getElem?_toArray, List.getElem?_cons_zero, List.getElem?_cons_succ] at y8 y9
              clear HA hnn
              go_wp2_with (go_at_call 15; (with_reducible refine (HMY.out _).mono ?_); rintro e w7 ⟨rfl, rfl⟩)
              go_ret
              exact ⟨by rw [HQ.out, Bool.true_and]; rfl, hb⟩
        · rw [if_neg h3]
          obtain ⟨Ae, ce, hve, _, _⟩ := hE.slice
          exact exRight_other k t nl ⟨lk, li, ls⟩ lv col op A sA kids.length c sn sc vE ⟨Ae, env.length, ce, hve⟩ h1 h2 h3 w

end Go.Proofs.YtippffjhkinfoaaGreatDoor
