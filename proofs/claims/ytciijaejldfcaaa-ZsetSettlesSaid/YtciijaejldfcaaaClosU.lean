/-
  The closures of zset's Settle: how much an update brings, and an update told in new memory.
-/
import Derived.Test.YtciijaejldfcaaaClos
import Derived.Test.YtciijaejldfcaaaSortU
namespace Go.Proofs.Ytciijaejldfcaaa.Up
open Go.RowKit

/-- An update of l and n comes back in new memory. -/
def ToldPost (l : KeyU) (n : Int) (w : World) (e : Ending) (w' : World) : Prop := ∃ v', e = .returned (.agg #[v', .int .i64 l.1, .int .i64 n]) ∧ FreshV w' w.heap.size v' l.2 ∧ Below w.heap.size w w'

theorem res3 {w : World} {b : Nat} {u v z : Value} {t : TypeId} (h : Blk w b #[u, v, z] t) (x y s : Value) :
    (w.setCell ⟨b, 0, none⟩ x).cell? ⟨b, 0, none⟩ = some x ∧ ((w.setCell ⟨b, 0, none⟩ x).setCell ⟨b, 1, none⟩ y).cell? ⟨b, 1, none⟩ = some y ∧ (((w.setCell ⟨b, 0, none⟩ x).setCell ⟨b, 1, none⟩ y).setCell ⟨b, 2, none⟩ s).cell? ⟨b, 2, none⟩ = some s :=
  ⟨(h.set 0 x).cell 0, ((h.set 0 x).set 1 y).cell 1, (((h.set 0 x).set 1 y).set 2 s).cell 2⟩

set_option maxRecDepth 100000 in
set_option maxHeartbeats 1000000 in
theorem count_any (v : Value) (t n : Int) (w : World) (hv : (∃ A c k, v = .slice A c k)) (hn : -9223372036854775808 ≤ n ∧ n ≤ 9223372036854775807) :
    Calls Try.prog 43 #[.agg #[v, .int .i64 t, .int .i64 n]] w (SumPost (1 * n) w) := by
  rw [Int.one_mul]
  have HX : Hid (∀ W, Calls Try.prog 44 #[.int .i64 n] W fun e w' => e = .returned (sumV n) ∧ Gr W.heap.size W w') := fun W => sumOf_any n W hn.1 hn.2
  clear hn
  unfold SumPost
  revert HX
  unfold sumV
  generalize hiS n = ah
  generalize loS n = al
  intro HX
  obtain ⟨A, c, k, rfl⟩ := hv
  go_enter Try.func43, Try.ntmps43
  go_wp2_with (go_at_call 44; refine (HX.out _).mono ?_; rintro e w1 ⟨rfl, hb1⟩; have bX := Blk.below (b := w.heap.size + 1) (cs := #[.int .u64 0, .int .u64 0]) (t := 56) (Blk.at (by simp)) hb1.toBelow; have f0 := Blk.frozen bX 0; have f1 := Blk.frozen bX 1; have c0 := Blk.cell bX 0; have c1 := Blk.cell bX 1; simp only [List.getElem?_toArray, List.getElem?_cons_zero, List.getElem?_cons_succ] at c0 c1)
  obtain ⟨d0, d1⟩ := bX.res2 (.int .u64 ah) (.int .u64 al)
  refine bodyPost_ret (v := .agg #[.int .u64 ah, .int .u64 al]) (by simp [results, Try.results43, go_sem, d0, d1]) rfl ⟨rfl, ?_⟩
  exact ((Below.trans (((Below.refl _ _).alloc (Nat.le_refl _) _).alloc (by simp) _) (hb1.toBelow.mono (by simp; omega))).setCell (by simp) _).setCell (by simp) _

set_option maxRecDepth 100000 in
set_option maxHeartbeats 2000000 in
theorem told_any (v : Value) (l : KeyU) (m n : Int) (w : World) (hv : RowV w v l.2) (hB : RowB l.2) :
    Calls Try.prog 45 #[.agg #[v, .int .i64 l.1, .int .i64 m], .int .i64 n] w (ToldPost l n w) := by
  have HX : Hid (∀ W, Below w.heap.size w W → Calls Try.prog 46 #[v] W fun e w' => ∃ v', e = .returned v' ∧ FreshV w' W.heap.size v' l.2 ∧ Below W.heap.size W w') := fun W hW => fresh_row v l.2 W (hv.below hW) hB
  unfold ToldPost
  obtain ⟨t, r⟩ := l
  simp only at HX ⊢
  rcases hv with ⟨A, c, rfl, -⟩ | ⟨b, o, c, rfl, -, -, -⟩
  all_goals
    clear hB
    go_enter Try.func45, Try.ntmps45
    go_wp2_with fail
    have hpre : ∀ cs, Below w.heap.size w ((w.alloc (.cells cs 48)).alloc (.cells #[.slice none 0 0, .int .i64 0, .int .i64 0] 48)).drew := fun cs => (((Below.refl _ _).alloc (Nat.le_refl _) _).alloc (by simp) _).drew
    have HPRE := Lib.hid hpre
    clear hpre
    go_region_with (go_at_call 46; refine (HX.out _ (HPRE.out _)).mono ?_; rintro e w1 ⟨v', rfl, hf, hb1⟩; have bX := Blk.below (b := w.heap.size + 1) (cs := #[.slice none 0 0, .int .i64 0, .int .i64 0]) (t := 48) (Blk.drew (Blk.at (by simp))) hb1; have f0 := Blk.frozen bX 0; have f1 := Blk.frozen bX 1; have f2 := Blk.frozen bX 2; have c0 := Blk.cell bX 0; have c1 := Blk.cell bX 1; have c2 := Blk.cell bX 2; have bA := Blk.below (b := w.heap.size) (t := 48) (((Blk.new w _ 48).alloc _).drew) hb1; have a1 := Blk.cell bA 1; simp only [List.getElem?_toArray, List.getElem?_cons_zero, List.getElem?_cons_succ] at c0 c1 c2 a1; have hf2 := hf; obtain ⟨bf, rfl, hbf, hbk⟩ := hf2; obtain ⟨d0, d1, d2⟩ := res3 bX (.slice (some ⟨bf, 0, none⟩) r.length r.length) (.int .i64 t) (.int .i64 n))
    all_goals
      go_wp2
      refine bodyPost_ret (v := .agg #[.slice (some ⟨bf, 0, none⟩) r.length r.length, .int .i64 t, .int .i64 n]) (by simp [results, Try.results45, go_sem, d0, d1, d2]) rfl ⟨_, rfl, ?_, ?_⟩
      · refine ⟨bf, rfl, by simp at hbf; omega, ?_⟩
        have hne : w.heap.size + 1 ≠ bf := by simp at hbf; omega
        exact ((hbk.setOther hne 0 _).setOther hne 1 _).setOther hne 2 _
      · exact (((Below.trans (HPRE.out _) (hb1.mono (by simp; omega))).setCell (by simp) _).setCell (by simp) _).setCell (by simp) _

end Go.Proofs.Ytciijaejldfcaaa.Up
