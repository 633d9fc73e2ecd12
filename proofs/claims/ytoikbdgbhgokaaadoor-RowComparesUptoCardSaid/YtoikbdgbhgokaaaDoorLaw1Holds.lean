/-
  RowCompares, the second form: for every two rows that are together of bulk at most 1048576 the law returns true, and its arguments read as they did; the tables of unicode/utf8, of math/bits and of internal/strconv that the row lists start as the program's text lays them (the card ties them).
-/
import Derived.Test.YtoikbdgbhgokaaaDoorLaw1
import Derived.Test.YtoikbdgbhgokaaaDoorTabs2
import Derived.Deep.DeepHandedRow
namespace Go.Proofs.YtoikbdgbhgokaaaDoor
open Go.ChangeShapes Go.WideShapes Go.ChangeAt Go.RowKit Go.Joins Go.Deep

theorem bulk_one {H : Type} (d : DataW H) : 1 ≤ Rows.uptoBulk d := by
  cases d with
  | lit l => cases l <;> simp [Rows.uptoBulk]
  | nil => simp [Rows.uptoBulk]
  | ptr d => simp [Rows.uptoBulk]
  | slice elems spare => simp [Rows.uptoBulk]
  | agg parts => simp [Rows.uptoBulk]
  | iface t d => simp [Rows.uptoBulk]
  | map entries => simp [Rows.uptoBulk]
  | held h => simp [Rows.uptoBulk]
theorem bulk_length {H : Type} (l : List (DataW H)) : l.length ≤ Rows.uptoBulkAll l := by
  induction l with
  | nil => simp [Rows.uptoBulkAll]
  | cons x r ih => have := bulk_one x; simp only [Rows.uptoBulkAll, List.length_cons]; omega

/-- A row that comes in has no more values than its bulk. -/
theorem row_len {H : Type} {enc : TypeId × Value → H} {W : World} {v : Value} {d : DataW H} {p : List MemPlace} {l : List Dat}
    (h : DataW.Trod enc Tryd.prog W 0 (fun _ => true) true 23 v d p) (hr : RowV W v l) : l.length ≤ Rows.uptoBulk d := by
  rcases hr with ⟨rfl, rfl⟩ | ⟨b, off, cap, rfl, _⟩
  · simp
  · obtain ⟨fuel, hf⟩ := h
    rcases open_slice Tryd.underlying23 hf with ⟨hcs, _⟩ | ⟨a, len, cap', m, n, D, Pl, hcs, _, _, _, _, hx, _⟩
    · simp [Value.cells] at hcs
    · simp [Value.cells] at hcs
      obtain ⟨_, hlen, _⟩ := hcs
      simp only [Prod.mk.injEq] at hx
      rw [hx.1, Rows.uptoBulk]
      have := bulk_length (H := H) ((List.range len).map D)
      rw [List.length_map, List.length_range] at this
      omega

theorem rowCompares_whole (os : Os) {H : Type} (enc : TypeId × Value → H) :
    DataW.whole enc Tryd.prog ((World.laidAll Tryd.prog os Rows.rowComparesUptoRow.laid).forCall (fun _ _ => 0) ⟨#[], #[.slice none 0 0, .slice none 0 0], []⟩).memory Tryd.f3.params.toList Rows.rowComparesSpec.vars false #[Value.slice none 0 0, Value.slice none 0 0].toList 8 = some ([.nil, .nil], [], []) := by kernel_rfl

set_option linter.unusedVariables false in
set_option maxRecDepth 100000 in
theorem rowComparesUpto_lifted (os : Os) (started : os.Started) (H : Type) (enc : TypeId × Value → H) (F : Stop.Interp) :
    ReturnsInHanded {} Tryd.checked os 3 .any ((Rows.OpenSpec.upto Rows.rowComparesSpec).preRow enc Tryd.prog Tryd.f3 Rows.rowComparesUptoRow.domain false Rows.rowComparesUptoRow.laid)
      (((Rows.OpenSpec.upto Rows.rowComparesSpec).at F).post enc Tryd.prog Tryd.f3 false true false false) := by
  refine returnsInHanded_of_row (C := Tryd.checked) (s := Rows.OpenSpec.upto Rows.rowComparesSpec) Tryd.own started (by kernel_rfl) Tryd.func3
    ⟨World.laidAll Tryd.prog os Rows.rowComparesUptoRow.laid, fun _ _ => 0, ⟨#[], #[.slice none 0 0, .slice none 0 0], []⟩, World.laidAll_os _ _ _, World.shaped_of_ZipB (by kernel_rfl) (by kernel_rfl),
      (Input.okWide_of_okWideB (P := Tryd.prog) (w := (World.laidAll Tryd.prog os Rows.rowComparesUptoRow.laid).forCall (fun _ _ => 0) ⟨#[], #[.slice none 0 0, .slice none 0 0], []⟩) (f := 3) (i := ⟨#[], #[.slice none 0 0, .slice none 0 0], []⟩) (base := 0) (by kernel_rfl)).1,
      (Input.okWide_of_okWideB (P := Tryd.prog) (w := (World.laidAll Tryd.prog os Rows.rowComparesUptoRow.laid).forCall (fun _ _ => 0) ⟨#[], #[.slice none 0 0, .slice none 0 0], []⟩) (f := 3) (i := ⟨#[], #[.slice none 0 0, .slice none 0 0], []⟩) (by kernel_rfl)).2,
      OpenSpec.preRow_of_cond 8 (rowCompares_whole os enc) (by kernel_rfl) (fun k hk => by cases hk; kernel_rfl) (by kernel_rfl) (by rw [MakeChecks.laidMetH_plain _ _ _ (by kernel_rfl)]; exact laidMet_laidAll _ (by kernel_rfl) (by kernel_rfl)),
      by simp only [Assume.holds]; refine ⟨?_, ?_, ?_, ?_, ?_⟩; all_goals first | (intro h; cases h; done) | (intro d h; cases h; done) | simp⟩ ?_
  intro W base args ds gs before hval0 hW _ hcond _ hL hS _
  have hk := hcond _ rfl
  have hL' : laidMet Tryd.prog Rows.rowComparesUptoRow.laid W := by rw [MakeChecks.laidMetH_plain _ _ _ (by kernel_rfl)] at hL; exact hL
  have hT : Lits W := ⟨tabs_of (Lib.laidMet.reads hL' (List.Mem.tail _ (List.Mem.tail _ (List.Mem.tail _ (List.Mem.tail _ (List.Mem.head _)))))) (Lib.laidMet.reads hL' (List.Mem.tail _ (List.Mem.tail _ (List.Mem.tail _ (List.Mem.head _))))), pow10_of (Lib.laidMet.reads hL' (List.Mem.tail _ (List.Mem.tail _ (List.Mem.head _)))), maxV_of hS⟩
  have hval : ∀ (j : Nat) t v, Tryd.f3.params[j]? = some t → args[j]? = some v → Value.okWide Tryd.prog W .any base t v := hval0
  have hW' := hW
  obtain ⟨p, q, hA0, hV, rfl, _, _⟩ := hW
  have hA : DataW.TrodAll enc Tryd.prog W 0 (fun _ => true) true Tryd.f3.params.toList args.toList ds p := hA0
  rw [Tryd.params3] at hA hval
  obtain ⟨v0, v1, d0, d1, p0, p1, rfl, rfl, rfl, h0, h1⟩ := trodAll_two hA
  obtain ⟨rfl, rfl⟩ := trodVars_none hV
  have c0 := h0
  have lt0 : ∀ x ∈ p0, x.block < W.heap.size := by obtain ⟨m, hm⟩ := c0; exact DataW.trod_lt m _ _ _ hm
  have c1 := h1
  have lt1 : ∀ x ∈ p1, x.block < W.heap.size := by obtain ⟨m, hm⟩ := c1; exact DataW.trod_lt m _ _ _ hm
  obtain ⟨l0, r0, i0⟩ := open_row (hval 0 23 v0 rfl rfl) h0
  obtain ⟨l1, r1, i1⟩ := open_row (hval 1 23 v1 rfl rfl) h1
  have n0 := row_len h0 r0
  have n1 := row_len h1 r1
  have hb : Rows.uptoBulkAll [d0, d1] ≤ 1048576 := of_decide_eq_true hk
  simp only [Rows.uptoBulkAll] at hb
  simp only [List.append_nil] at hW'
  refine (compares_any v0 v1 l0 l1 W r0 r1 (by omega) i0 hT).mono fun e W' ⟨he, bel⟩ => ?_
  subst he
  exact ⟨_, rfl, _, _, _, [], _, [], hW', trodAll_mk1 (shut_bool Tryd.underlying4 _), (trodAll_mk2 (Below.trod Tryd.laidOut (by kernel_rfl) (of_decide_eq_true (by kernel_rfl)) c0 bel lt0) (Below.trod Tryd.laidOut (by kernel_rfl) (of_decide_eq_true (by kernel_rfl)) c1 bel lt1)), rfl, bel.frame _, fun h => by cases h⟩

theorem rowComparesUpto_holds : Rows.RowComparesUptoSaid :=
  OpenClaim.holds_of_cond 3 Tryd.f3 rfl rfl rfl rfl rfl rfl rfl ⟨rfl, rfl, rfl, rfl, rfl⟩ rfl rfl rfl rfl rfl (by kernel_rfl) Tryd.func3 (by kernel_rfl)
    (of_decide_eq_true (by kernel_rfl)) (by unfold Func.isWrapper; first | (rw [if_pos (by decide +kernel)]; kernel_rfl) | (rw [if_neg (by decide +kernel)]; exact ⟨rfl, rfl⟩))
    (fun os started H enc _ F => by rw [OpenClaim.pre_eq_preRow]; exact rowComparesUpto_lifted os started H enc F)

theorem rowComparesUpto_card_holds : Rows.RowComparesUptoCardSaid :=
  Claim7.holds_tied_plain_at .later [] _ _ _ _ rowComparesUpto_holds (fun _ h => by cases h) (by kernel_rfl) (fun _ h => by cases h) rowComparesUpto_row_tie rfl ⟨rfl, rfl⟩ (by kernel_rfl) rfl
    (fun f fn hf hfn => by
      obtain rfl : f = 3 := Option.some.inj ((show Tryd.prog.funcNamed "freshet/freshetlaw02.RowCompares" = some 3 by kernel_rfl).symm.trans hf) |>.symm
      obtain rfl : fn = Tryd.f3 := (Option.some.inj (Tryd.func3.symm.trans hfn)).symm
      exact ⟨by kernel_rfl, fun j t ht => by
        rw [Tryd.params3] at ht
        have hm : t ∈ [23, 23] := by simpa using Array.mem_of_getElem? ht
        have hall : ([23, 23].all fun u => !Tryd.prog.wantsStandIn u) = true := by kernel_rfl
        exact (show Tryd.prog.wantsStandIn t = false by simpa using List.all_eq_true.1 hall t hm)⟩)
    (by kernel_rfl)

#print axioms rowComparesUpto_card_holds
end Go.Proofs.YtoikbdgbhgokaaaDoor
