/-
  DatumOrders: for every three values the law returns true, and its arguments read as they did; no conditions.
-/
import Derived.Test.YtkobjlmnbfkgaaaOrd
import Derived.ProofKit
import Derived.OpenShut
import Derived.ShutString
import Derived.ChangeOld
import Derived.Below
import Derived.Lib.SmallJoins
namespace Go.Proofs.Ytkobjlmnbfkgaaa
open Go.ChangeShapes Go.WideShapes Go.ChangeAt Go.RowKit Go.Joins
open Go.ChangeMaps (open_string shut_string)

theorem orders_any (ka ia : Int) (sa : ByteArray) (kb ib : Int) (sb : ByteArray) (kc ic : Int) (sc : ByteArray) (w : World) :
    Calls Try.prog 3 #[.agg #[.int .i64 ka, .int .i64 ia, .string sa], .agg #[.int .i64 kb, .int .i64 ib, .string sb], .agg #[.int .i64 kc, .int .i64 ic, .string sc]] w fun e w' => e = .returned (.bool true) ∧ Below w.heap.size w w' := by
  refine orders_core ka ia sa kb ib sb kc ic sc _ _ _ _ (decide (ka = kb ∧ ia = ib ∧ sa = sb)) w (cmp_of rfl) (cmp_of rfl) (cmp_of rfl) (cmp_of rfl) (cmp_of (ordD_self _ _ _)) (fun w => run_eq_datum _ _ _ _ _ _ w) ?_
  have hanti := ordD_anti ka ia sa kb ib sb
  have hr := ordD_range ka ia sa kb ib sb
  have hry := ordD_range kb ib sb kc ic sc
  by_cases h0 : ordD ka ia sa kb ib sb = 0
  · obtain ⟨rfl, rfl, rfl⟩ := ordD_eq _ _ _ _ _ _ h0
    have hd : decide (ka = ka ∧ ia = ia ∧ sa = sa) = true := by simp
    by_cases h1 : 0 < ordD ka ia sa kc ic sc
    · exact .inr (.inr (.inr (.inr (.inl ⟨h0, h0, hd, rfl, h1⟩))))
    · by_cases h2 : ordD ka ia sa kc ic sc < 0
      · exact .inr (.inr (.inr (.inr (.inr (.inl ⟨h0, h0, hd, rfl, h2⟩)))))
      · exact .inr (.inr (.inr (.inr (.inr (.inr ⟨h0, h0, hd, by omega, by omega⟩)))))
  · have hd : decide (ka = kb ∧ ia = ib ∧ sa = sb) = false := by
      rw [decide_eq_false_iff_not]
      rintro ⟨rfl, rfl, rfl⟩
      exact h0 (ordD_self _ _ _)
    have ht := ordD_trans ka ia sa kb ib sb kc ic sc
    have ht2 := ordD_trans kc ic sc kb ib sb ka ia sa
    have a1 := ordD_anti kb ib sb kc ic sc
    have a2 := ordD_anti ka ia sa kc ic sc
    by_cases hn : ordD ka ia sa kb ib sb < 0
    · by_cases h1 : 0 < ordD kb ib sb kc ic sc
      · exact .inl ⟨by omega, by omega, hd, h1⟩
      · exact .inr (.inl ⟨by omega, by omega, hd, by omega, ht (by omega) (by omega)⟩)
    · by_cases h1 : ordD kb ib sb kc ic sc < 0
      · exact .inr (.inr (.inl ⟨by omega, by omega, hd, h1⟩))
      · have ht3 := ht2 (by omega) (by omega)
        exact .inr (.inr (.inr (.inl ⟨by omega, by omega, hd, by omega, by omega⟩)))

theorem Try.own : ownKnob Try.prog.godebug = none := by kernel_rfl
theorem Try.laidOut : laidOutB Try.prog = true := by kernel_rfl
theorem Try.cells23 : Try.prog.cellsOf 23 = 3 := by kernel_rfl

/-- A value that comes in, opened. -/
theorem open_datum {H : Type} {enc : TypeId × Value → H} {W : World} {r : Reach} {base b1 : Nat} {sp : Nat → Bool} {held : Bool} {v : Value} {d : DataW H} {p : List MemPlace}
    (hv : Value.okWide Try.prog W r base 23 v) (h : DataW.Trod enc Try.prog W b1 sp held 23 v d p) : ∃ (k i : Int) (s : ByteArray), v = .agg #[.int .i64 k, .int .i64 i, .string s] := by
  obtain ⟨c0, c1, c2, y0, y1, y2, m, rfl, rfl, rfl, hy0, hy1, hy2⟩ := open_agg3 Try.underlying23 (by kernel_rfl) Try.cells23 hv h
  obtain ⟨a, e0, rfl, wa⟩ := DataW.trod_int Try.underlying3 hy0
  obtain ⟨b, e1, rfl, wb⟩ := DataW.trod_int Try.underlying2 hy1
  obtain ⟨s, e2, rfl, ws⟩ := DataW.trod_string Try.underlying9 hy2
  simp at e0 e1 e2
  subst e0 e1 e2
  exact ⟨a, b, s, rfl⟩

set_option maxRecDepth 100000 in
theorem orders_lifted (os : Os) (started : os.Started) (H : Type) (enc : TypeId × Value → H) :
    ReturnsInHanded {} Try.checked os 3 .any (Rows.datumOrdersSpec.pre6 enc Try.prog Try.f3 Rows.datumOrdersRow.domain false) (Rows.datumOrdersSpec.post enc Try.prog Try.f3 false true false false) := by
  refine returnsInHanded_of_change (C := Try.checked) Try.own started (by kernel_rfl) Try.func3
    (ChangeSpec.witness6 (enc := enc) (C := Try.checked) false ⟨#[], #[.agg #[.int .i64 0, .int .i64 0, .string ⟨#[]⟩], .agg #[.int .i64 0, .int .i64 0, .string ⟨#[]⟩], .agg #[.int .i64 0, .int .i64 0, .string ⟨#[]⟩]], []⟩ 8 (by kernel_rfl) (by kernel_rfl) (by kernel_rfl) (by kernel_rfl)) ?_
  intro W base args ds gs before hval0 hW hcnd _
  have hval : ∀ (j : Nat) t v, Try.f3.params[j]? = some t → args[j]? = some v → Value.okWide Try.prog W .any base t v := hval0
  have hW' := hW
  obtain ⟨p, q, hA0, hV, rfl, hfz, hnd⟩ := hW
  have hA : DataW.TrodAll enc Try.prog W 0 (fun _ => true) true Try.f3.params.toList args.toList ds p := hA0
  rw [Try.params3] at hA hval
  obtain ⟨v0, v1, v2, d0, d1, d2, p0, p1, p2, rfl, rfl, rfl, h0, h1, h2⟩ := trodAll_three hA
  obtain ⟨rfl, rfl⟩ := trodVars_none hV
  have k0 := h0
  have k1 := h1
  have k2 := h2
  have lt0 : ∀ x ∈ p0, x.block < W.heap.size := by obtain ⟨m, hm⟩ := k0; exact DataW.trod_lt m _ _ _ hm
  have lt1 : ∀ x ∈ p1, x.block < W.heap.size := by obtain ⟨m, hm⟩ := k1; exact DataW.trod_lt m _ _ _ hm
  have lt2 : ∀ x ∈ p2, x.block < W.heap.size := by obtain ⟨m, hm⟩ := k2; exact DataW.trod_lt m _ _ _ hm
  obtain ⟨ka, ia, sa, rfl⟩ := open_datum (hval 0 23 v0 rfl rfl) h0
  obtain ⟨kb, ib, sb, rfl⟩ := open_datum (hval 1 23 v1 rfl rfl) h1
  obtain ⟨kc, ic, sc, rfl⟩ := open_datum (hval 2 23 v2 rfl rfl) h2
  clear hA0 hval0
  refine (orders_any ka ia sa kb ib sb kc ic sc W).mono fun e W' ⟨he, bel⟩ => ?_
  subst he
  exact ⟨_, rfl, _, _, _, [], _, [], hW', trodAll_mk1 (shut_bool Try.underlying4 _), (trodAll_mk3 (Below.trod Try.laidOut (by kernel_rfl) (of_decide_eq_true (by kernel_rfl)) k0 bel lt0) (Below.trod Try.laidOut (by kernel_rfl) (of_decide_eq_true (by kernel_rfl)) k1 bel lt1) (Below.trod Try.laidOut (by kernel_rfl) (of_decide_eq_true (by kernel_rfl)) k2 bel lt2)), rfl, bel.frame _, fun h => by cases h⟩

theorem orders_holds : Rows.DatumOrdersSaid :=
  OpenClaim.holds_of_wide 3 Try.f3 rfl rfl rfl rfl rfl rfl rfl ⟨rfl, rfl, rfl, rfl, rfl⟩ rfl rfl rfl rfl rfl (by kernel_rfl) Try.func3 (by kernel_rfl)
    (of_decide_eq_true (by kernel_rfl)) (by unfold Func.isWrapper; first | (rw [if_pos (by decide +kernel)]; kernel_rfl) | (rw [if_neg (by decide +kernel)]; exact ⟨rfl, rfl⟩))
    (fun os started H enc _ => orders_lifted os started H enc)

#print axioms orders_holds
end Go.Proofs.Ytkobjlmnbfkgaaa
