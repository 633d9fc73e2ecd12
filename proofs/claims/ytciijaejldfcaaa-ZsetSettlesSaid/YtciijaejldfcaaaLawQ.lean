/-
  What stage 3's laws call of their own: known, and the reference's Like, of lists that are the same.
-/
import Derived.Test.YtciijaejldfcaaaLawP
import Derived.Test.YtciijaejldfcaaaKept
namespace Go.Proofs.Ytciijaejldfcaaa
open Go.RowKit

/-- A bool comes back; memory of the call's own alone is made. -/
def BoolB (b : Bool) (w : World) (e : Ending) (w' : World) : Prop := e = .returned (.bool b) ∧ Below w.heap.size w w'

theorem plain_get {K1 K2 : List Cnt} (he : plainC K1 = plainC K2) (k : Nat) (h1 : k < K1.length) (h2 : k < K2.length) : K1[k].l = K2[k].l ∧ K1[k].n = K2[k].n := by
  have h := congrArg (fun l => l[k]?) he
  simp only [plainC, List.getElem?_map, List.getElem?_eq_getElem h1, List.getElem?_eq_getElem h2, Option.map_some, Option.some.injEq, Prod.mk.injEq] at h
  exact h
theorem plain_len {K1 K2 : List Cnt} (he : plainC K1 = plainC K2) : K1.length = K2.length := by
  have := congrArg List.length he
  simpa [plainC] using this

set_option maxRecDepth 100000 in
set_option maxHeartbeats 4000000 in
theorem like_any (v1 v2 : Value) (K1 K2 : List Cnt) (w : World) (h1 : CntV w v1 K1) (h2 : CntV w v2 K2) (r1 : RowsIn w K1) (r2 : RowsIn w K2) (he : plainC K1 = plainC K2) (hl : K1.length ≤ 1000000) :
    Calls Try.prog 15 #[v1, v2] w (BoolB true w) := by
  have hlen := plain_len he
  have HE := Lib.hid he
  have R1 := Lib.hid r1
  have R2 := Lib.hid r2
  clear he r1 r2
  obtain ⟨A1, c1, rfl, HA1⟩ : ∃ A c, v1 = .slice A K1.length c ∧ Hid (K1 = [] ∨ ∃ b off, A = some ⟨b, off, none⟩ ∧ b < w.heap.size ∧ AtG encC 2 w b off K1) := by
    rcases h1 with ⟨rfl, rfl⟩ | ⟨b, off, cap, rfl, _, hb, hat, _⟩
    · exact ⟨none, 0, rfl, .inl rfl⟩
    · exact ⟨_, _, rfl, .inr ⟨b, off, rfl, hb, hat⟩⟩
  obtain ⟨A2, c2, rfl, HA2⟩ : ∃ A c, v2 = .slice A K1.length c ∧ Hid (K2 = [] ∨ ∃ b off, A = some ⟨b, off, none⟩ ∧ b < w.heap.size ∧ AtG encC 2 w b off K2) := by
    rw [hlen]
    rcases h2 with ⟨rfl, rfl⟩ | ⟨b, off, cap, rfl, _, hb, hat, _⟩
    · exact ⟨none, 0, rfl, .inl rfl⟩
    · exact ⟨_, _, rfl, .inr ⟨b, off, rfl, hb, hat⟩⟩
  have HL := Lib.hid hlen
  clear h1 h2 hlen
  go_enter Try.func15, Try.ntmps15
  go_wp2_with fail
  go_loopw [13] (fun i wr => ∃ k : Nat, k ≤ K1.length ∧ i = .int .i64 k ∧ Below w.heap.size w wr) (fun i _ => K1.length - (intOf i).toNat)
  case atStart => exact ⟨0, Nat.zero_le _, rfl, Below.refl _ _⟩
  case round =>
    obtain ⟨k, hk, rfl, hb⟩ := hrel
    have hz := hb.size
    by_cases hlt : k < K1.length
    · have hlt2 : k < K2.length := by rw [← HL.out]; exact hlt
      obtain ⟨b1, o1, rfl, hb1, hat1⟩ := HA1.out.resolve_left (by rintro rfl; simp at hlt)
      obtain ⟨b2, o2, rfl, hb2, hat2⟩ := HA2.out.resolve_left (by rintro rfl; simp at hlt2)
      obtain ⟨e1, e2⟩ := plain_get HE.out k hlt hlt2
      have a0 := (hb.cell (p := ⟨b1, o1 + k * 2 + 0, none⟩) hb1).trans (hat1 k _ (List.getElem?_eq_getElem hlt) 0 _ rfl)
      have a1 := (hb.cell (p := ⟨b1, o1 + k * 2 + 1, none⟩) hb1).trans (hat1 k _ (List.getElem?_eq_getElem hlt) 1 _ rfl)
      have a2 := (hb.cell (p := ⟨b2, o2 + k * 2 + 0, none⟩) hb2).trans (hat2 k _ (List.getElem?_eq_getElem hlt2) 0 _ rfl)
      have a3 := (hb.cell (p := ⟨b2, o2 + k * 2 + 1, none⟩) hb2).trans (hat2 k _ (List.getElem?_eq_getElem hlt2) 1 _ rfl)
      rw [Nat.add_zero] at a0 a2
      rw [← e2] at a3
      have HSM : Hid (∀ n : Kept wr, Calls Try.prog 31 #[K1[k].v, K2[k].v] n.w fun e w' => e = .returned (.bool true) ∧ Below n.w.heap.size n.w w') := fun n => by
        have hbn := hb.trans (n.h.mono hz)
        have := refSame_any K1[k].v K2[k].v K1[k].l K2[k].l n.w ((R1.out _ (List.getElem_mem hlt)).below hbn) ((R2.out _ (List.getElem_mem hlt2)).below hbn)
        rw [e1, cmpR_self] at this
        exact this.mono fun _ _ h => ⟨h.1, h.2.toBelow⟩
      clear hat1 hat2 e1 e2
      revert a0 a1 a2 a3 HSM
      generalize K1[k].v = x1
      generalize K2[k].v = x2
      generalize K1[k].n = n1
      intro a0 a1 a2 a3 HSM
      have k0 := fun n : Kept wr => n.cell a0
      have k1 := fun n : Kept wr => n.cell a1
      have k2 := fun n : Kept wr => n.cell a2
      have k3 := fun n : Kept wr => n.cell a3
      go_wp2_with fail
      refine wp_region_kept (by kernel_rfl) (by kernel_rfl) ?_
      repeat (go_big_quiet_step ((go_at_call 31; exact Calls.kept (HSM.out _))))
      refine wpQuiet_nil ?_
      intro wk hw'
      obtain ⟨⟨wk2, hwk⟩, hw''⟩ := hw'
      simp only at hw''
      subst hw''
      go_wp2
      go_roundw
      case rel => exact ⟨k + 1, by omega, by go_num, hb.trans (hwk.mono hz)⟩
      case measure => simp [intOf]; omega
    · obtain rfl : k = K1.length := by omega
      go_wp2
      go_ret
      exact ⟨rfl, hb⟩


/-- The row that known counts. -/
def sevenR : List Dat := [⟨2, 7, ⟨#[]⟩⟩]
def sevenL (a b : Nat) : List Cnt := [⟨.slice (some ⟨a, 0, none⟩) 1 1, sevenR, 1⟩, ⟨.slice (some ⟨b, 0, none⟩) 1 1, sevenR, 2⟩]

theorem seven_row (w : World) (b : Nat) (h : Blk w b #[.int .i64 2, .int .i64 7, .string ⟨#[]⟩] 51) : RowV w (.slice (some ⟨b, 0, none⟩) 1 1) sevenR := by
  refine .inr ⟨b, 0, 1, rfl, by decide, h.lt, ?_⟩
  intro k d hk
  match k, hk with
  | 0, hk =>
    simp only [sevenR, List.getElem?_cons_zero, Option.some.injEq] at hk
    subst hk
    exact ⟨h.cell 0, h.cell 1, h.cell 2⟩
  | k + 1, hk => simp [sevenR] at hk

theorem seven_ins (w : World) (a b c : Nat) (ha : Blk w a #[.int .i64 2, .int .i64 7, .string ⟨#[]⟩] 51) (hb : Blk w b #[.int .i64 2, .int .i64 7, .string ⟨#[]⟩] 51) (hc : Blk w c #[.slice (some ⟨a, 0, none⟩) 1 1, .int .i64 1, .slice (some ⟨b, 0, none⟩) 1 1, .int .i64 2] 44) :
    CntIns w (.slice (some ⟨c, 0, none⟩) 2 2) (sevenL a b) := by
  refine ⟨.inr ⟨c, 0, 2, rfl, (show 2 ≤ maxLen by decide), hc.lt, ?_, Nat.le_refl _⟩, ?_, ?_, (show 2 ≤ 1000000 by decide)⟩
  · intro i x hi r u hr
    match i, hi with
    | 0, hi =>
      simp only [sevenL, List.getElem?_cons_zero, Option.some.injEq] at hi
      subst hi
      have h2 : r < 2 := by have := (List.getElem?_eq_some_iff.mp hr).1; simpa [encC] using this
      rw [show 0 + 0 * 2 + r = r by omega, hc.cell]
      match r, h2 with
      | 0, _ => simpa [encC] using hr
      | 1, _ => simpa [encC] using hr
    | 1, hi =>
      simp only [sevenL, List.getElem?_cons_succ, List.getElem?_cons_zero, Option.some.injEq] at hi
      subst hi
      have h2 : r < 2 := by have := (List.getElem?_eq_some_iff.mp hr).1; simpa [encC] using this
      rw [show 0 + 1 * 2 + r = r + 2 by omega, hc.cell]
      match r, h2 with
      | 0, _ => simpa [encC] using hr
      | 1, _ => simpa [encC] using hr
    | i + 2, hi => simp [sevenL] at hi
  · intro x hx
    simp [sevenL] at hx
    rcases hx with rfl | rfl
    · exact seven_row w a ha
    · exact seven_row w b hb
  · intro x hx
    have hB : RowB sevenR := by
      refine ⟨by decide, fun d hd => ?_⟩
      simp [sevenR] at hd
      subst hd
      decide
    simp [sevenL] at hx
    rcases hx with rfl | rfl
    · exact ⟨hB, (show (-9223372036854775808 : Int) ≤ 1 by decide), (show (1 : Int) ≤ 9223372036854775807 by decide)⟩
    · exact ⟨hB, (show (-9223372036854775808 : Int) ≤ 2 by decide), (show (2 : Int) ≤ 9223372036854775807 by decide)⟩

theorem seven_cnt (a b : Nat) (r : List Dat) : cntR (plainC (sevenL a b)) r = cntR [(sevenR, 3)] r := by
  simp only [sevenL, plainC, List.map_cons, List.map_nil, cntR]
  by_cases h : cmpR sevenR r = 0
  · simp only [h, if_true]; omega
  · simp only [h, if_false]; omega
theorem seven_fit (a b : Nat) (r : List Dat) : fitsB (1 * cntR (plainC (sevenL a b)) r) = true := by
  rw [seven_cnt]
  simp only [cntR]
  split <;> decide
theorem seven_tid (a b : Nat) : Tid 1 (plainC (sevenL a b)) [(sevenR, 3)] := by
  refine ⟨by simp, ?_, fun r => by rw [seven_cnt]; omega⟩
  intro x hx
  simp at hx
  subst hx
  exact ⟨by decide, by decide⟩

set_option maxRecDepth 100000 in
set_option maxHeartbeats 2000000 in
theorem known_any (w : World) : Calls Try.prog 29 #[] w (BoolB true w) := by
  have HT : Hid (∀ W a b c, Blk W a #[.int .i64 2, .int .i64 7, .string ⟨#[]⟩] 51 → Blk W b #[.int .i64 2, .int .i64 7, .string ⟨#[]⟩] 51 → Blk W c #[.slice (some ⟨a, 0, none⟩) 1 1, .int .i64 1, .slice (some ⟨b, 0, none⟩) 1 1, .int .i64 2] 44 →
      Calls Try.prog 11 #[.slice (some ⟨c, 0, none⟩) 2 2] W fun e w' => ∃ g cap, e = .returned (.tuple #[.slice (some ⟨g, 0, none⟩) 1 cap, .int .i64 0]) ∧ w'.cell? ⟨g, 1, none⟩ = some (.int .i64 3) ∧ Below W.heap.size W w') := by
    intro W a b c ha hb hc
    refine (tidy_ok _ _ W (seven_ins W a b c ha hb hc) (seven_fit a b)).mono ?_
    rintro e w' ⟨v', K, rfl, hb, ht, ho, hf, hl⟩
    have hp := ht.unique (seven_tid a b) (fun r => rfl)
    have hK1 : K.length = 1 := by
      have := congrArg List.length hp
      simpa [plainC] using this
    rcases ho.val hkC with ⟨_, h0⟩ | ⟨g, off, cap, rfl, _, _, hat, _⟩
    · rw [h0] at hK1; cases hK1
    · rcases ho.shape with ⟨h, _⟩ | ⟨g', cap', h, _⟩
      · cases h
      · injection h with h1 h2 h3
        injection h1 with h1
        injection h1 with h4 h5
        subst h5
        rw [hK1]
        match K, hK1 with
        | [x], _ =>
          have hx : x.n = 3 := by
            simp [plainC] at hp
            exact hp.2
          have := hat 0 x rfl 1 _ rfl
          rw [hx] at this
          exact ⟨g, cap, rfl, this, hb⟩
  go_enter Try.func29, Try.ntmps29
  go_wp2_with (go_at_call 11; refine (HT.out _ w.heap.size (w.heap.size + 1) (w.heap.size + 2) (((Blk.at rfl).alloc _).alloc _) ((Blk.at (by simp)).alloc _) (Blk.at (by simp))).mono ?_; rintro e w1 ⟨g, cap, rfl, hc, hb⟩)
  go_ret
  exact ⟨rfl, Below.trans ((((Below.refl _ _).alloc (Nat.le_refl _) _).alloc (by simp) _).alloc (by simp; omega) _) (hb.mono (by simp; omega))⟩

end Go.Proofs.Ytciijaejldfcaaa
