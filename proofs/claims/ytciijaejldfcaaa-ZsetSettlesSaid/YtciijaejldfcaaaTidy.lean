/-
  The contracts of zset's Tidy and Negate: of any counted rows the tidy list in new memory, or ErrDiff.
-/
import Derived.Test.YtciijaejldfcaaaSums
namespace Go.Proofs.Ytciijaejldfcaaa
open Go.RowKit

theorem TidPost.up {sg : Int} {P : List CRow} {w w1 : World} {e : Ending} {w' : World} (h : TidPost sg P w1 e w') (hw : Below w.heap.size w w1) : TidPost sg P w e w' := by
  obtain ⟨hb, h⟩ := h
  refine ⟨hw.trans (hb.mono hw.size), ?_⟩
  rcases h with h | ⟨v', K, he, ht, ho, hf, hl⟩
  · exact .inl h
  · exact .inr ⟨v', K, he, ht, ho.more hw.size, hf.more hw.size, hl⟩

/-- What is asked of counted rows that come in. -/
def CntIns (w : World) (v : Value) (L : List Cnt) : Prop := CntV w v L ∧ RowsIn w L ∧ (∀ x ∈ L, RowB x.l ∧ -9223372036854775808 ≤ x.n ∧ x.n ≤ 9223372036854775807) ∧ L.length ≤ 1000000
theorem CntIns.below {w w' : World} {v : Value} {L : List Cnt} (h : CntIns w v L) (hb : Below w.heap.size w w') : CntIns w' v L := ⟨h.1.below hb, h.2.1.below hb, h.2.2⟩

theorem counts_gen (T : Nat) (sg : Int) (hsg : sg = 1 ∨ sg = -1)
    (hT : ∀ (v : Value) (n : Int) (p : Nat) (w : World), (∃ A c k, v = .slice A c k) → (-9223372036854775808 ≤ n ∧ n ≤ 9223372036854775807) → Blk w p #[.func (.func T) #[] #[]] 57 → Calls Try.prog 51 #[.agg #[v, .int .i64 n], .pointer (some ⟨p, 0, none⟩)] w (SumPost (sg * n) w))
    (v : Value) (L : List Cnt) (w : World) (h : CntIns w v L) : Calls Try.prog 33 #[v, .func (.func T) #[] #[]] w (TidPost sg (plainC L) w) := by
  have h1 : Below w.heap.size w (w.alloc (.cells #[.func (.func T) #[] #[]] 57)) := (Below.refl _ _).alloc (Nat.le_refl _) _
  have h2 := h.below h1
  have HS := Lib.hid (sumsC_any sg hsg w.heap.size v L _ h2.1 h2.2.1 h2.2.2.1 h2.2.2.2 (fun W hW x hx => hT x.v x.n w.heap.size W (by
    rcases h.2.1 x hx with ⟨_, _, e, _⟩ | ⟨b, o, c, e, _⟩
    · exact ⟨_, _, _, e⟩
    · exact ⟨_, _, _, e⟩) (h.2.2.1 x hx).2 ((Blk.new w _ 57).below hW)))
  have HU : Hid (∀ e w', TidPost sg (plainC L) (w.alloc (.cells #[.func (.func T) #[] #[]] 57)) e w' → TidPost sg (plainC L) w e w') := fun e w' k => k.up h1
  clear h h2 h1 hT
  go_enter Try.func33, Try.ntmps33
  go_wp2_with (go_at_call 53; refine HS.out.mono ?_; rintro e w' hp; have hq := Lib.hid (HU.out _ _ hp); rcases hp with ⟨hb, ⟨hn, rfl⟩ | ⟨v', K, rfl, hr⟩⟩)
  all_goals
    go_ret2
    exact hq.out

theorem tidy_any (v : Value) (L : List Cnt) (w : World) (h : CntIns w v L) : Calls Try.prog 11 #[v] w (TidPost 1 (plainC L) w) := by
  have HS := Lib.hid (counts_gen 34 1 (.inl rfl) count_keep v L w h)
  clear h
  go_enter Try.func11, Try.ntmps11
  go_wp2_with (go_at_call 33; refine HS.out.mono ?_; rintro e w' hp; have hq := Lib.hid hp; rcases hp with ⟨hb, ⟨hn, rfl⟩ | ⟨v', K, rfl, hr⟩⟩)
  all_goals
    go_ret2
    exact hq.out

theorem negate_any (v : Value) (L : List Cnt) (w : World) (h : CntIns w v L) : Calls Try.prog 13 #[v] w (TidPost (-1) (plainC L) w) := by
  have HS := Lib.hid (counts_gen 36 (-1) (.inr rfl) count_turn v L w h)
  clear h
  go_enter Try.func13, Try.ntmps13
  go_wp2_with (go_at_call 33; refine HS.out.mono ?_; rintro e w' hp; have hq := Lib.hid hp; rcases hp with ⟨hb, ⟨hn, rfl⟩ | ⟨v', K, rfl, hr⟩⟩)
  all_goals
    go_ret2
    exact hq.out

end Go.Proofs.Ytciijaejldfcaaa
