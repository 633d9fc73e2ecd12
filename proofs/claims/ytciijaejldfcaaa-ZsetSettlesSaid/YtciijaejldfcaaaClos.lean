/-
  The closures of zset's counts: how often a counted row is there, and a counted row told in new memory.
-/
import Derived.Test.YtciijaejldfcaaaNum
import Derived.Test.YtciijaejldfcaaaSort
import Derived.Test.YtciijaejldfcaaaFresh
import Derived.RegionTactic
import Derived.Deep.RegionWith
namespace Go.Proofs.Ytciijaejldfcaaa
open Go.RowKit

/-- A sum comes back; memory of the call's own alone is made. -/
def SumPost (s : Int) (w : World) (e : Ending) (w' : World) : Prop := e = .returned (sumV s) ∧ Below w.heap.size w w'
/-- A counted row of l and n comes back in new memory. -/
def ToldPost (l : List Dat) (n : Int) (w : World) (e : Ending) (w' : World) : Prop := ∃ v', e = .returned (.agg #[v', .int .i64 n]) ∧ FreshV w' w.heap.size v' l ∧ Below w.heap.size w w'

set_option maxRecDepth 100000 in
set_option maxHeartbeats 1000000 in
theorem count_keep (v : Value) (n : Int) (p : Nat) (w : World) (hv : (∃ A c k, v = .slice A c k)) (hn : -9223372036854775808 ≤ n ∧ n ≤ 9223372036854775807) (hp : Blk w p #[.func (.func 34) #[] #[]] 57) :
    Calls Try.prog 51 #[.agg #[v, .int .i64 n], .pointer (some ⟨p, 0, none⟩)] w (SumPost (1 * n) w) := by
  have HX : Hid (∀ W, Calls Try.prog 44 #[.int .i64 n] W fun e w' => e = .returned (sumV n) ∧ Gr W.heap.size W w') := fun W => sumOf_any n W hn.1 hn.2
  have HT : Hid (∀ W, Calls Try.prog 34 #[sumV n] W fun e w' => e = .returned (sumV (1 * n)) ∧ Gr W.heap.size W w') := fun W => keep_any n W
  clear hn
  unfold SumPost
  revert HX HT
  unfold sumV
  generalize hiS (1 * n) = rh
  generalize loS (1 * n) = rl
  generalize hiS n = ah
  generalize loS n = al
  intro HX HT
  obtain ⟨A, c, k, rfl⟩ := hv
  have hpl := hp.lt
  have hp0 := hp.cell 0
  simp only [List.getElem?_toArray, List.getElem?_cons_zero] at hp0
  have HP := Lib.hid hp
  clear hp
  go_enter Try.func51, Try.ntmps51
  go_wp2_with fail
  go_region_with (first | (go_at_call 44; refine (HX.out _).mono ?_; rintro e w1 ⟨rfl, hb1⟩; have bp := (((HP.out.alloc (.cells #[.slice A c k, .int .i64 n] 44)).alloc (.cells #[.int .u64 0, .int .u64 0] 56)).drew).below hb1.toBelow; have bpc := bp.cell 0; simp only [List.getElem?_toArray, List.getElem?_cons_zero] at bpc; have bX := Blk.below (b := w.heap.size + 1) (cs := #[.int .u64 0, .int .u64 0]) (t := 56) (Blk.drew (Blk.at (by simp))) hb1.toBelow) | (go_at_call 34; refine (HT.out _).mono ?_; rintro e w2 ⟨rfl, hb2⟩; have bY := Blk.below ‹Blk _ (w.heap.size + 1) #[.int .u64 0, .int .u64 0] 56› hb2.toBelow; have f0 := Blk.frozen bY 0; have f1 := Blk.frozen bY 1; have c0 := Blk.cell bY 0; have c1 := Blk.cell bY 1; simp only [List.getElem?_toArray, List.getElem?_cons_zero, List.getElem?_cons_succ] at c0 c1; obtain ⟨d0, d1⟩ := bY.res2 (.int .u64 rh) (.int .u64 rl)))
  all_goals
    go_wp2
    refine bodyPost_ret (v := .agg #[.int .u64 rh, .int .u64 rl]) (by simp [results, Try.results51, go_sem, d0, d1]) rfl ⟨rfl, ?_⟩
    have h1 : Below w.heap.size w _ := Below.trans (((Below.refl _ _).alloc (Nat.le_refl _) _).alloc (by simp) _).drew (hb1.toBelow.mono (by simp; omega))
    exact ((h1.trans (hb2.toBelow.mono h1.size)).setCell (by simp) _).setCell (by simp) _

set_option maxRecDepth 100000 in
set_option maxHeartbeats 1000000 in
theorem count_turn (v : Value) (n : Int) (p : Nat) (w : World) (hv : (∃ A c k, v = .slice A c k)) (hn : -9223372036854775808 ≤ n ∧ n ≤ 9223372036854775807) (hp : Blk w p #[.func (.func 36) #[] #[]] 57) :
    Calls Try.prog 51 #[.agg #[v, .int .i64 n], .pointer (some ⟨p, 0, none⟩)] w (SumPost (-1 * n) w) := by
  have HX : Hid (∀ W, Calls Try.prog 44 #[.int .i64 n] W fun e w' => e = .returned (sumV n) ∧ Gr W.heap.size W w') := fun W => sumOf_any n W hn.1 hn.2
  have HT : Hid (∀ W, Calls Try.prog 36 #[sumV n] W fun e w' => e = .returned (sumV (-1 * n)) ∧ Gr W.heap.size W w') := fun W => turn_any n W
  clear hn
  unfold SumPost
  revert HX HT
  unfold sumV
  generalize hiS (-1 * n) = rh
  generalize loS (-1 * n) = rl
  generalize hiS n = ah
  generalize loS n = al
  intro HX HT
  obtain ⟨A, c, k, rfl⟩ := hv
  have hpl := hp.lt
  have hp0 := hp.cell 0
  simp only [List.getElem?_toArray, List.getElem?_cons_zero] at hp0
  have HP := Lib.hid hp
  clear hp
  go_enter Try.func51, Try.ntmps51
  go_wp2_with fail
  go_region_with (first | (go_at_call 44; refine (HX.out _).mono ?_; rintro e w1 ⟨rfl, hb1⟩; have bp := (((HP.out.alloc (.cells #[.slice A c k, .int .i64 n] 44)).alloc (.cells #[.int .u64 0, .int .u64 0] 56)).drew).below hb1.toBelow; have bpc := bp.cell 0; simp only [List.getElem?_toArray, List.getElem?_cons_zero] at bpc; have bX := Blk.below (b := w.heap.size + 1) (cs := #[.int .u64 0, .int .u64 0]) (t := 56) (Blk.drew (Blk.at (by simp))) hb1.toBelow) | (go_at_call 36; refine (HT.out _).mono ?_; rintro e w2 ⟨rfl, hb2⟩; have bY := Blk.below ‹Blk _ (w.heap.size + 1) #[.int .u64 0, .int .u64 0] 56› hb2.toBelow; have f0 := Blk.frozen bY 0; have f1 := Blk.frozen bY 1; have c0 := Blk.cell bY 0; have c1 := Blk.cell bY 1; simp only [List.getElem?_toArray, List.getElem?_cons_zero, List.getElem?_cons_succ] at c0 c1; obtain ⟨d0, d1⟩ := bY.res2 (.int .u64 rh) (.int .u64 rl)))
  all_goals
    go_wp2
    refine bodyPost_ret (v := .agg #[.int .u64 rh, .int .u64 rl]) (by simp [results, Try.results51, go_sem, d0, d1]) rfl ⟨rfl, ?_⟩
    have h1 : Below w.heap.size w _ := Below.trans (((Below.refl _ _).alloc (Nat.le_refl _) _).alloc (by simp) _).drew (hb1.toBelow.mono (by simp; omega))
    exact ((h1.trans (hb2.toBelow.mono h1.size)).setCell (by simp) _).setCell (by simp) _

set_option maxHeartbeats 1000000 in
theorem told_any (v : Value) (l : List Dat) (m n : Int) (w : World) (hv : RowV w v l) (hB : RowB l) :
    Calls Try.prog 52 #[.agg #[v, .int .i64 m], .int .i64 n] w (ToldPost l n w) := by
  have HX : Hid (∀ W, Below w.heap.size w W → Calls Try.prog 46 #[v] W fun e w' => ∃ v', e = .returned v' ∧ FreshV w' W.heap.size v' l ∧ Below W.heap.size W w') := fun W hW => fresh_row v l W (hv.below hW) hB
  unfold ToldPost
  rcases hv with ⟨A, c, rfl, -⟩ | ⟨b, o, c, rfl, -, -, -⟩
  all_goals
    clear hB
    go_enter Try.func52, Try.ntmps52
    go_wp2_with (go_at_call 46; refine (HX.out _ (((Below.refl _ _).alloc (Nat.le_refl _) _).alloc (by simp) _)).mono ?_; rintro e w1 ⟨v', rfl, hf, hb1⟩; have bX := Blk.below (b := w.heap.size + 1) (cs := #[.slice none 0 0, .int .i64 0]) (t := 44) (Blk.at (by simp)) hb1; have f0 := Blk.frozen bX 0; have f1 := Blk.frozen bX 1; have c0 := Blk.cell bX 0; have c1 := Blk.cell bX 1; simp only [List.getElem?_toArray, List.getElem?_cons_zero, List.getElem?_cons_succ] at c0 c1; have hf2 := hf; obtain ⟨bf, rfl, hbf, hbk⟩ := hf2; obtain ⟨d0, d1⟩ := bX.res2 (.slice (some ⟨bf, 0, none⟩) l.length l.length) (.int .i64 n))
    refine bodyPost_ret (v := .agg #[.slice (some ⟨bf, 0, none⟩) l.length l.length, .int .i64 n]) (by simp [results, Try.results52, go_sem, d0, d1]) rfl ⟨_, rfl, ?_, ?_⟩
    · refine ⟨bf, rfl, by simp at hbf; omega, ?_⟩
      have hne : w.heap.size + 1 ≠ bf := by simp at hbf; omega
      exact (hbk.setOther hne 0 _).setOther hne 1 _
    · exact ((Below.trans (((Below.refl _ _).alloc (Nat.le_refl _) _).alloc (by simp) _) (hb1.mono (by simp; omega))).setCell (by simp) _).setCell (by simp) _

end Go.Proofs.Ytciijaejldfcaaa
