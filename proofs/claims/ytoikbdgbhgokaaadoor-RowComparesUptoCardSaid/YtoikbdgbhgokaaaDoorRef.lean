/-
  The contracts of the reference's eight and Value: a number's eight bytes, a value's bytes, in a new slice; they make memory of their own alone.
-/
import Derived.Test.YtoikbdgbhgokaaaDoorValue
namespace Go.Proofs.YtoikbdgbhgokaaaDoor
open Go.RowKit

theorem add_top (i : Int) (h0 : -9223372036854775808 ≤ i) (h1 : i ≤ 9223372036854775807) : IntKind.u64.wrap (IntKind.u64.wrap i + 9223372036854775808) = ((turned i : Nat) : Int) := by
  rw [IntKind.wrap_u64, IntKind.wrap_u64]
  unfold turned
  omega

set_option maxRecDepth 100000 in
set_option maxHeartbeats 4000000 in
theorem refEight (i : Int) (w : World) (hI : Hid (-9223372036854775808 ≤ i ∧ i ≤ 9223372036854775807)) :
    Calls Tryd.prog 49 #[.int .i64 i] w (AppPost w.heap.size w (be8 (turned i))) := by
  go_enter Tryd.func49, Tryd.ntmps49
  go_wp2
  rw [add_top i hI.out.1 hI.out.2]
  go_loopw [4, 5] (fun u x wr => ∃ (j : Nat) (q : Int), j ≤ 8 ∧ x = .int .i64 q ∧ q = 7 - (j : Int) ∧ OwnB wr w.heap.size u ((be8 (turned i)).take j) ∧ Below w.heap.size w wr) (fun _ x _ => (intOf x + 1).toNat)
  case atStart => exact ⟨0, _, by omega, rfl, by omega, OwnB.lit w w.heap.size [] _ rfl (by omega) (by simp), (Below.refl _ _).alloc (Nat.le_refl _) _⟩
  case round =>
    obtain ⟨j, q, hj, rfl, hq, ho, hb⟩ := hrel
    have hz := hb.size
    rcases (show j = 0 ∨ j = 1 ∨ j = 2 ∨ j = 3 ∨ j = 4 ∨ j = 5 ∨ j = 6 ∨ j = 7 ∨ j = 8 by omega) with rfl | rfl | rfl | rfl | rfl | rfl | rfl | rfl | rfl
    · obtain rfl : q = 7 := by omega
      clear hq
      go_wp2_with (at_builtin; refine wpList_append_bytes _ rfl _ _ rfl w.heap.size _ _ rfl (ho.alloc _) ⟨wr.heap.size, 0, none⟩ [nth8 (turned i) 0] 1 1 rfl rfl (news_one wr _ _ (by first | exact be8_0 (turned i) | (have hb' := be8_0 (turned i); omega)) _ rfl) (by have ht := take_len (turned i) 0; omega) (by simp <;> omega) ?_)
      intro v1 w1 ho1 hg
      have hb1 := bel_app hb ho (by omega) hg
      have ho2 : OwnB w1 w.heap.size v1 ((be8 (turned i)).take 1) := by
        have e := take_nth [] (turned i) 0 (by omega)
        rw [List.nil_append, List.nil_append] at e
        rw [e]
        exact ho1
      clear hg ho ho1
      go_wp2
      go_roundw
      case rel => exact ⟨1, _, by omega, rfl, by omega, ho2, hb1⟩
      case measure => simp [intOf]
    · obtain rfl : q = 6 := by omega
      clear hq
      go_wp2_with (at_builtin; refine wpList_append_bytes _ rfl _ _ rfl w.heap.size _ _ rfl (ho.alloc _) ⟨wr.heap.size, 0, none⟩ [nth8 (turned i) 1] 1 1 rfl rfl (news_one wr _ _ (by first | exact be8_1 (turned i) | (have hb' := be8_1 (turned i); omega)) _ rfl) (by have ht := take_len (turned i) 1; omega) (by simp <;> omega) ?_)
      intro v1 w1 ho1 hg
      have hb1 := bel_app hb ho (by omega) hg
      have ho2 : OwnB w1 w.heap.size v1 ((be8 (turned i)).take 2) := by
        have e := take_nth [] (turned i) 1 (by omega)
        rw [List.nil_append, List.nil_append] at e
        rw [e]
        exact ho1
      clear hg ho ho1
      go_wp2
      go_roundw
      case rel => exact ⟨2, _, by omega, rfl, by omega, ho2, hb1⟩
      case measure => simp [intOf]
    · obtain rfl : q = 5 := by omega
      clear hq
      go_wp2_with (at_builtin; refine wpList_append_bytes _ rfl _ _ rfl w.heap.size _ _ rfl (ho.alloc _) ⟨wr.heap.size, 0, none⟩ [nth8 (turned i) 2] 1 1 rfl rfl (news_one wr _ _ (by first | exact be8_2 (turned i) | (have hb' := be8_2 (turned i); omega)) _ rfl) (by have ht := take_len (turned i) 2; omega) (by simp <;> omega) ?_)
      intro v1 w1 ho1 hg
      have hb1 := bel_app hb ho (by omega) hg
      have ho2 : OwnB w1 w.heap.size v1 ((be8 (turned i)).take 3) := by
        have e := take_nth [] (turned i) 2 (by omega)
        rw [List.nil_append, List.nil_append] at e
        rw [e]
        exact ho1
      clear hg ho ho1
      go_wp2
      go_roundw
      case rel => exact ⟨3, _, by omega, rfl, by omega, ho2, hb1⟩
      case measure => simp [intOf]
    · obtain rfl : q = 4 := by omega
      clear hq
      go_wp2_with (at_builtin; refine wpList_append_bytes _ rfl _ _ rfl w.heap.size _ _ rfl (ho.alloc _) ⟨wr.heap.size, 0, none⟩ [nth8 (turned i) 3] 1 1 rfl rfl (news_one wr _ _ (by first | exact be8_3 (turned i) | (have hb' := be8_3 (turned i); omega)) _ rfl) (by have ht := take_len (turned i) 3; omega) (by simp <;> omega) ?_)
      intro v1 w1 ho1 hg
      have hb1 := bel_app hb ho (by omega) hg
      have ho2 : OwnB w1 w.heap.size v1 ((be8 (turned i)).take 4) := by
        have e := take_nth [] (turned i) 3 (by omega)
        rw [List.nil_append, List.nil_append] at e
        rw [e]
        exact ho1
      clear hg ho ho1
      go_wp2
      go_roundw
      case rel => exact ⟨4, _, by omega, rfl, by omega, ho2, hb1⟩
      case measure => simp [intOf]
    · obtain rfl : q = 3 := by omega
      clear hq
      go_wp2_with (at_builtin; refine wpList_append_bytes _ rfl _ _ rfl w.heap.size _ _ rfl (ho.alloc _) ⟨wr.heap.size, 0, none⟩ [nth8 (turned i) 4] 1 1 rfl rfl (news_one wr _ _ (by first | exact be8_4 (turned i) | (have hb' := be8_4 (turned i); omega)) _ rfl) (by have ht := take_len (turned i) 4; omega) (by simp <;> omega) ?_)
      intro v1 w1 ho1 hg
      have hb1 := bel_app hb ho (by omega) hg
      have ho2 : OwnB w1 w.heap.size v1 ((be8 (turned i)).take 5) := by
        have e := take_nth [] (turned i) 4 (by omega)
        rw [List.nil_append, List.nil_append] at e
        rw [e]
        exact ho1
      clear hg ho ho1
      go_wp2
      go_roundw
      case rel => exact ⟨5, _, by omega, rfl, by omega, ho2, hb1⟩
      case measure => simp [intOf]
    · obtain rfl : q = 2 := by omega
      clear hq
      go_wp2_with (at_builtin; refine wpList_append_bytes _ rfl _ _ rfl w.heap.size _ _ rfl (ho.alloc _) ⟨wr.heap.size, 0, none⟩ [nth8 (turned i) 5] 1 1 rfl rfl (news_one wr _ _ (by first | exact be8_5 (turned i) | (have hb' := be8_5 (turned i); omega)) _ rfl) (by have ht := take_len (turned i) 5; omega) (by simp <;> omega) ?_)
      intro v1 w1 ho1 hg
      have hb1 := bel_app hb ho (by omega) hg
      have ho2 : OwnB w1 w.heap.size v1 ((be8 (turned i)).take 6) := by
        have e := take_nth [] (turned i) 5 (by omega)
        rw [List.nil_append, List.nil_append] at e
        rw [e]
        exact ho1
      clear hg ho ho1
      go_wp2
      go_roundw
      case rel => exact ⟨6, _, by omega, rfl, by omega, ho2, hb1⟩
      case measure => simp [intOf]
    · obtain rfl : q = 1 := by omega
      clear hq
      go_wp2_with (at_builtin; refine wpList_append_bytes _ rfl _ _ rfl w.heap.size _ _ rfl (ho.alloc _) ⟨wr.heap.size, 0, none⟩ [nth8 (turned i) 6] 1 1 rfl rfl (news_one wr _ _ (by first | exact be8_6 (turned i) | (have hb' := be8_6 (turned i); omega)) _ rfl) (by have ht := take_len (turned i) 6; omega) (by simp <;> omega) ?_)
      intro v1 w1 ho1 hg
      have hb1 := bel_app hb ho (by omega) hg
      have ho2 : OwnB w1 w.heap.size v1 ((be8 (turned i)).take 7) := by
        have e := take_nth [] (turned i) 6 (by omega)
        rw [List.nil_append, List.nil_append] at e
        rw [e]
        exact ho1
      clear hg ho ho1
      go_wp2
      go_roundw
      case rel => exact ⟨7, _, by omega, rfl, by omega, ho2, hb1⟩
      case measure => simp [intOf]
    · obtain rfl : q = 0 := by omega
      clear hq
      go_wp2_with (at_builtin; refine wpList_append_bytes _ rfl _ _ rfl w.heap.size _ _ rfl (ho.alloc _) ⟨wr.heap.size, 0, none⟩ [nth8 (turned i) 7] 1 1 rfl rfl (news_one wr _ _ (by first | exact be8_7 (turned i) | (have hb' := be8_7 (turned i); omega)) _ rfl) (by have ht := take_len (turned i) 7; omega) (by simp <;> omega) ?_)
      intro v1 w1 ho1 hg
      have hb1 := bel_app hb ho (by omega) hg
      have ho2 : OwnB w1 w.heap.size v1 ((be8 (turned i)).take 8) := by
        have e := take_nth [] (turned i) 7 (by omega)
        rw [List.nil_append, List.nil_append] at e
        rw [e]
        exact ho1
      clear hg ho ho1
      go_wp2
      go_roundw
      case rel => exact ⟨8, _, by omega, rfl, by omega, ho2, hb1⟩
      case measure => simp [intOf]
    · obtain rfl : q = -1 := by omega
      clear hq
      have ht : List.take 8 (be8 (turned i)) = be8 (turned i) := by simp [be8]
      rw [ht] at ho
      clear ht
      go_wp2
      go_ret
      exact ⟨_, rfl, ho, hb⟩

/-- Where the cells of an own slice lie. -/
theorem OwnB.form {w : World} {base : Nat} {v : Value} {l : List UInt8} (h : OwnB w base v l) (hl : l ≠ []) :
    ∃ g cap, v = .slice (some ⟨g, 0, none⟩) l.length cap ∧ ∀ j u, (l.map byteV)[j]? = some u → w.cell? ((⟨g, 0, none⟩ : Addr).add j) = some u := by
  rcases h.2 with ⟨rfl, h0⟩ | ⟨g, cap, cur, rfl, _⟩
  · exact absurd (List.eq_nil_of_length_eq_zero h0) hl
  · exact ⟨g, cap, rfl, h.cells (g := g) rfl⟩

set_option maxRecDepth 100000 in
set_option maxHeartbeats 4000000 in
theorem refValue (k i : Int) (s : ByteArray) (w : World) (hk0 : 0 ≤ k) (hk5 : k ≤ 5) (hI : Hid (-9223372036854775808 ≤ i ∧ i ≤ 9223372036854775807)) (hs : s.size ≤ 1000) :
    Calls Tryd.prog 31 #[.agg #[.int .i64 k, .int .i64 i, .string s]] w (AppPost w.heap.size w (encD ⟨k, i, s⟩)) := by
  obtain ⟨x, hx⟩ : ∃ x : Int, x = k + 1 := ⟨_, rfl⟩
  have h0 : ((u8 (k + 1)).toNat : Int) = x := by rw [hx]; exact u8_toNat (k + 1) (by omega) (by omega)
  have ho : OwnB ((w.alloc (.cells #[.int .i64 k, .int .i64 i, .string s] 37)).alloc (.cells #[.int .u8 x] 5)) (w.heap.size + 1) (.slice (some ⟨w.heap.size + 1, 0, none⟩) 1 1) [u8 (k + 1)] := by
    have := OwnB.lit (w.alloc (.cells #[.int .i64 k, .int .i64 i, .string s] 37)) (w.heap.size + 1) [u8 (k + 1)] #[.int .u8 x] (by simp [byteV, h0]) (by simp) (by simp [maxLen])
    simpa using this
  have hb : Below w.heap.size w ((w.alloc (.cells #[.int .i64 k, .int .i64 i, .string s] 37)).alloc (.cells #[.int .u8 x] 5)) := ((Below.refl _ _).alloc (Nat.le_refl _) _).alloc (by simp) _
  have hD : Blk ((w.alloc (.cells #[.int .i64 k, .int .i64 i, .string s] 37)).alloc (.cells #[.int .u8 x] 5)) w.heap.size #[.int .i64 k, .int .i64 i, .string s] 37 := (Blk.new w _ 37).alloc _
  clear h0
  rcases (show k = 0 ∨ k = 1 ∨ (k = 2 ∨ k = 3) ∨ (k = 4 ∨ k = 5) by omega) with rfl | rfl | h | h
  · obtain rfl : x = 1 := by omega
    have HO := Lib.hid ho
    have HB := Lib.hid hb
    clear hk0 hk5 ho hb hD hx
    go_enter Tryd.func31, Tryd.ntmps31
    go_wp2
    go_ret
    exact ⟨_, rfl, HO.out.more (by omega), HB.out⟩
  · have h0 : ((u8 i).toNat : Int) = i % 256 := by unfold u8; rw [UInt8.toNat_ofNat']; omega
    obtain rfl : x = 2 := by omega
    have H0 := Lib.hid h0
    have HB := Lib.hid hb
    have HO := Lib.hid ho
    clear h0 hk0 hk5 hb ho hD hx
    go_enter Tryd.func31, Tryd.ntmps31
    go_wp2_with (at_builtin; refine wpList_append_bytes _ rfl _ _ rfl (w.heap.size + 1) _ _ rfl (HO.out.alloc _) ⟨w.heap.size + 1 + 1, 0, none⟩ [u8 i] 1 1 rfl rfl (news_one ((w.alloc _).alloc _) _ _ H0.out _ (by simp)) (by simp) (by simp <;> omega) ?_)
    intro v2 w2 ho2 hg
    have hb2 := bel_app HB.out (HO.out.more (by omega)) (by simp; omega) hg
    clear hg
    go_wp2
    go_ret
    exact ⟨_, rfl, by simpa [encD, bodyD] using ho2.more (by omega), hb2⟩
  · rcases h with rfl | rfl
    all_goals
      simp only [Int.reduceAdd] at hx
      subst hx
      have HB := Lib.hid hb
      have HO := Lib.hid ho
      clear hk0 hk5 hb ho
      go_enter Tryd.func31, Tryd.ntmps31
      go_wp2_with fail
      refine (refEight i _ hI).mono ?_
      rintro e w1 ⟨v1, rfl, ho1, hb1⟩
      obtain ⟨g, cap, rfl, hcells⟩ := ho1.form (by simp [be8])
      have hob : OwnB w1 (w.heap.size + 1) _ _ := HO.out.below hb1
      have hz1 := hb1.size
      simp at hz1
      have HC := Lib.hid hcells
      have HB1 := Lib.hid hb1
      have HOB := Lib.hid hob
      clear hcells ho1 hb1 hob hD
      go_wp2_with (at_builtin; refine wpList_append_bytes _ rfl _ _ rfl (w.heap.size + 1) _ _ rfl HOB.out ⟨g, 0, none⟩ (be8 (turned i)) 8 cap rfl rfl HC.out (by simp) (by omega) ?_)
      intro v2 w2 ho2 hg
      have hb2 := (HB.out.trans (HB1.out.mono (by simp; omega))).trans (own_below (HOB.out.more (base' := w.heap.size) (by omega)) (by omega) hg)
      clear hg
      go_wp2
      go_ret
      exact ⟨_, rfl, by simpa [encD, bodyD] using ho2.more (by omega), hb2⟩
  · rcases h with rfl | rfl
    · obtain rfl : x = 5 := by omega
      have HB := Lib.hid hb
      have HO := Lib.hid ho
      have HD := Lib.hid hD
      clear hk0 hk5 hb ho hx hD
      go_enter Tryd.func31, Tryd.ntmps31
      go_wp2
      go_loopw [3, 4] (fun u y wr => ∃ n : Nat, n ≤ s.size ∧ y = .int .i64 n ∧ OwnB wr (w.heap.size + 1) u ([u8 (4 + 1)] ++ esc (s.data.toList.take n)) ∧ Below w.heap.size w wr ∧ Blk wr w.heap.size #[.int .i64 4, .int .i64 i, .string s] 37) (fun _ y _ => s.size - (intOf y).toNat)
      case atStart => exact ⟨0, by omega, rfl, by simpa [esc] using HO.out, HB.out, HD.out⟩
      case round =>
        obtain ⟨n, hn, rfl, ho, hb, hD⟩ := hrel
        have hz := hb.size
        have hlt0 := hD.lt
        have hel := esc_take_len s n
        have d0 := hD.cell 0
        have d1 := hD.cell 1
        have d2 := hD.cell 2
        simp only [List.getElem?_toArray, List.getElem?_cons_zero, List.getElem?_cons_succ] at d0 d1 d2
        have hne : u3.ownBlock ≠ some w.heap.size := fun e => by have := (ho.lt _ e).1; omega
        by_cases hlt : n < s.size
        · have HT := Lib.hid (esc_take s n hlt)
          by_cases h0 : s[n] = 0
          · have h0b : ((s[n].toNat : Int) == 0) = true := by rw [h0]; rfl
            have H0 := Lib.hid h0
            have HNE := Lib.hid hne
            clear h0 hne
            go_wp2_with (at_builtin; refine wpList_append_bytes _ rfl _ _ rfl (w.heap.size + 1) _ _ rfl (ho.alloc _) ⟨wr.heap.size, 0, none⟩ [s[n]] 1 1 rfl rfl (news_one wr _ _ rfl _ rfl) (by simp only [List.length_append, List.length_cons, List.length_nil]; omega) (by simp <;> omega) ?_)
            intro v1 w1 ho1 hg
            have hb1 := bel_app hb (ho.more (by omega)) (by omega) hg
            have hD1 := grown_cell (hD.alloc _) HNE.out hg
            have hz1 := hb1.size
            have hlt1 := hD1.lt
            have hne1 : v1.ownBlock ≠ some w.heap.size := fun e => by have := (ho1.lt _ e).1; omega
            have HNE1 := Lib.hid hne1
            have e0 := hD1.cell 0
            have e1 := hD1.cell 1
            have e2 := hD1.cell 2
            simp only [List.getElem?_toArray, List.getElem?_cons_zero, List.getElem?_cons_succ] at e0 e1 e2
            clear hg ho hne1 d0 d1 d2
            go_wp2_with (at_builtin; refine wpList_append_bytes _ rfl _ _ rfl (w.heap.size + 1) _ _ rfl (ho1.alloc _) ⟨w1.heap.size, 0, none⟩ [1] 1 1 rfl rfl (news_one w1 _ _ rfl _ rfl) (by simp only [List.length_append, List.length_cons, List.length_nil]; omega) (by simp <;> omega) ?_)
            intro v2 w2 ho2 hg
            have hb2 := bel_app hb1 (ho1.more (by omega)) (by omega) hg
            have hD2 := grown_cell (hD1.alloc _) HNE1.out hg
            have ho3 : OwnB w2 (w.heap.size + 1) v2 ([u8 (4 + 1)] ++ esc (s.data.toList.take (n + 1))) := by
              rw [HT.out, H0.out, esc_zero]
              rw [H0.out] at ho2
              simpa using ho2
            clear hg ho1 ho2 e0 e1 e2
            go_wp2
            go_roundw
            case rel => exact ⟨n + 1, by omega, by go_num, ho3, hb2, hD2⟩
            case measure => simp [intOf]; omega
          · have h0b : ((s[n].toNat : Int) == 0) = false := by
              rw [beq_eq_false_iff_ne]
              intro h
              exact h0 (UInt8.toNat_inj.mp (by rw [show (0 : UInt8).toNat = 0 from rfl]; omega))
            have H0 := Lib.hid h0
            have HNE := Lib.hid hne
            clear h0 hne
            go_wp2_with (at_builtin; refine wpList_append_bytes _ rfl _ _ rfl (w.heap.size + 1) _ _ rfl (ho.alloc _) ⟨wr.heap.size, 0, none⟩ [s[n]] 1 1 rfl rfl (news_one wr _ _ rfl _ rfl) (by simp only [List.length_append, List.length_cons, List.length_nil]; omega) (by simp <;> omega) ?_)
            intro v1 w1 ho1 hg
            have hb1 := bel_app hb (ho.more (by omega)) (by omega) hg
            have hD1 := grown_cell (hD.alloc _) HNE.out hg
            have e0 := hD1.cell 0
            have e1 := hD1.cell 1
            have e2 := hD1.cell 2
            simp only [List.getElem?_toArray, List.getElem?_cons_zero, List.getElem?_cons_succ] at e0 e1 e2
            have ho3 : OwnB w1 (w.heap.size + 1) v1 ([u8 (4 + 1)] ++ esc (s.data.toList.take (n + 1))) := by
              rw [HT.out, esc_one _ H0.out]
              simpa using ho1
            clear hg ho ho1 d0 d1 d2
            go_wp2
            go_roundw
            case rel => exact ⟨n + 1, by omega, by go_num, ho3, hb1, hD1⟩
            case measure => simp [intOf]; omega
        · obtain rfl : n = s.size := by omega
          rw [List.take_of_length_le (by rw [Array.length_toList]; exact Nat.le_refl _)] at ho
          have hel2 := esc_length s.data.toList
          rw [Array.length_toList] at hel2
          have hel3 : (esc s.data.toList).length ≤ 2 * s.size := hel2
          clear hel hel2 hne
          go_wp2_with (at_builtin; refine wpList_append_bytes _ rfl _ _ rfl (w.heap.size + 1) _ _ rfl (ho.alloc _) ⟨wr.heap.size, 0, none⟩ [0, 0] 2 2 rfl rfl (news_two wr _ _ _ _ rfl rfl _ rfl) (by simp only [List.length_append, List.length_cons, List.length_nil]; omega) (by simp <;> omega) ?_)
          intro v1 w1 ho1 hg
          have hb1 := bel_app hb (ho.more (by omega)) (by omega) hg
          clear hg ho
          go_wp2
          go_ret
          exact ⟨_, rfl, by simpa [encD, bodyD] using ho1.more (by omega), hb1⟩
    · obtain rfl : x = 6 := by omega
      have HB := Lib.hid hb
      have HO := Lib.hid ho
      have HD := Lib.hid hD
      clear hk0 hk5 hb ho hx hD
      go_enter Tryd.func31, Tryd.ntmps31
      go_wp2
      go_loopw [3, 4] (fun u y wr => ∃ n : Nat, n ≤ s.size ∧ y = .int .i64 n ∧ OwnB wr (w.heap.size + 1) u ([u8 (5 + 1)] ++ esc (s.data.toList.take n)) ∧ Below w.heap.size w wr ∧ Blk wr w.heap.size #[.int .i64 5, .int .i64 i, .string s] 37) (fun _ y _ => s.size - (intOf y).toNat)
      case atStart => exact ⟨0, by omega, rfl, by simpa [esc] using HO.out, HB.out, HD.out⟩
      case round =>
        obtain ⟨n, hn, rfl, ho, hb, hD⟩ := hrel
        have hz := hb.size
        have hlt0 := hD.lt
        have hel := esc_take_len s n
        have d0 := hD.cell 0
        have d1 := hD.cell 1
        have d2 := hD.cell 2
        simp only [List.getElem?_toArray, List.getElem?_cons_zero, List.getElem?_cons_succ] at d0 d1 d2
        have hne : u3.ownBlock ≠ some w.heap.size := fun e => by have := (ho.lt _ e).1; omega
        by_cases hlt : n < s.size
        · have HT := Lib.hid (esc_take s n hlt)
          by_cases h0 : s[n] = 0
          · have h0b : ((s[n].toNat : Int) == 0) = true := by rw [h0]; rfl
            have H0 := Lib.hid h0
            have HNE := Lib.hid hne
            clear h0 hne
            go_wp2_with (at_builtin; refine wpList_append_bytes _ rfl _ _ rfl (w.heap.size + 1) _ _ rfl (ho.alloc _) ⟨wr.heap.size, 0, none⟩ [s[n]] 1 1 rfl rfl (news_one wr _ _ rfl _ rfl) (by simp only [List.length_append, List.length_cons, List.length_nil]; omega) (by simp <;> omega) ?_)
            intro v1 w1 ho1 hg
            have hb1 := bel_app hb (ho.more (by omega)) (by omega) hg
            have hD1 := grown_cell (hD.alloc _) HNE.out hg
            have hz1 := hb1.size
            have hlt1 := hD1.lt
            have hne1 : v1.ownBlock ≠ some w.heap.size := fun e => by have := (ho1.lt _ e).1; omega
            have HNE1 := Lib.hid hne1
            have e0 := hD1.cell 0
            have e1 := hD1.cell 1
            have e2 := hD1.cell 2
            simp only [List.getElem?_toArray, List.getElem?_cons_zero, List.getElem?_cons_succ] at e0 e1 e2
            clear hg ho hne1 d0 d1 d2
            go_wp2_with (at_builtin; refine wpList_append_bytes _ rfl _ _ rfl (w.heap.size + 1) _ _ rfl (ho1.alloc _) ⟨w1.heap.size, 0, none⟩ [1] 1 1 rfl rfl (news_one w1 _ _ rfl _ rfl) (by simp only [List.length_append, List.length_cons, List.length_nil]; omega) (by simp <;> omega) ?_)
            intro v2 w2 ho2 hg
            have hb2 := bel_app hb1 (ho1.more (by omega)) (by omega) hg
            have hD2 := grown_cell (hD1.alloc _) HNE1.out hg
            have ho3 : OwnB w2 (w.heap.size + 1) v2 ([u8 (5 + 1)] ++ esc (s.data.toList.take (n + 1))) := by
              rw [HT.out, H0.out, esc_zero]
              rw [H0.out] at ho2
              simpa using ho2
            clear hg ho1 ho2 e0 e1 e2
            go_wp2
            go_roundw
            case rel => exact ⟨n + 1, by omega, by go_num, ho3, hb2, hD2⟩
            case measure => simp [intOf]; omega
          · have h0b : ((s[n].toNat : Int) == 0) = false := by
              rw [beq_eq_false_iff_ne]
              intro h
              exact h0 (UInt8.toNat_inj.mp (by rw [show (0 : UInt8).toNat = 0 from rfl]; omega))
            have H0 := Lib.hid h0
            have HNE := Lib.hid hne
            clear h0 hne
            go_wp2_with (at_builtin; refine wpList_append_bytes _ rfl _ _ rfl (w.heap.size + 1) _ _ rfl (ho.alloc _) ⟨wr.heap.size, 0, none⟩ [s[n]] 1 1 rfl rfl (news_one wr _ _ rfl _ rfl) (by simp only [List.length_append, List.length_cons, List.length_nil]; omega) (by simp <;> omega) ?_)
            intro v1 w1 ho1 hg
            have hb1 := bel_app hb (ho.more (by omega)) (by omega) hg
            have hD1 := grown_cell (hD.alloc _) HNE.out hg
            have e0 := hD1.cell 0
            have e1 := hD1.cell 1
            have e2 := hD1.cell 2
            simp only [List.getElem?_toArray, List.getElem?_cons_zero, List.getElem?_cons_succ] at e0 e1 e2
            have ho3 : OwnB w1 (w.heap.size + 1) v1 ([u8 (5 + 1)] ++ esc (s.data.toList.take (n + 1))) := by
              rw [HT.out, esc_one _ H0.out]
              simpa using ho1
            clear hg ho ho1 d0 d1 d2
            go_wp2
            go_roundw
            case rel => exact ⟨n + 1, by omega, by go_num, ho3, hb1, hD1⟩
            case measure => simp [intOf]; omega
        · obtain rfl : n = s.size := by omega
          rw [List.take_of_length_le (by rw [Array.length_toList]; exact Nat.le_refl _)] at ho
          have hel2 := esc_length s.data.toList
          rw [Array.length_toList] at hel2
          have hel3 : (esc s.data.toList).length ≤ 2 * s.size := hel2
          clear hel hel2 hne
          go_wp2_with (at_builtin; refine wpList_append_bytes _ rfl _ _ rfl (w.heap.size + 1) _ _ rfl (ho.alloc _) ⟨wr.heap.size, 0, none⟩ [0, 0] 2 2 rfl rfl (news_two wr _ _ _ _ rfl rfl _ rfl) (by simp only [List.length_append, List.length_cons, List.length_nil]; omega) (by simp <;> omega) ?_)
          intro v1 w1 ho1 hg
          have hb1 := bel_app hb (ho.more (by omega)) (by omega) hg
          clear hg ho
          go_wp2
          go_ret
          exact ⟨_, rfl, by simpa [encD, bodyD] using ho1.more (by omega), hb1⟩

end Go.Proofs.YtoikbdgbhgokaaaDoor
