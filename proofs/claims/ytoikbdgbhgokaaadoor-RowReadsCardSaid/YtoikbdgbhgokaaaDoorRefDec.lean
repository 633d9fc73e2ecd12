/-
  The contracts of the reference's read at any place, and of its Decode: the row whose bytes a string is, or the error; they make memory of their own alone.
-/
import Derived.Test.YtoikbdgbhgokaaaDoorRefReadT
import Derived.Test.YtoikbdgbhgokaaaDoorDecRow
namespace Go.Proofs.YtoikbdgbhgokaaaDoor
open Go.RowKit

theorem refRead_any (s : ByteArray) (k : Nat) (w : World) (h : k < s.size) (hs : s.size ≤ 140737488351232) :
    Calls Tryd.prog 33 #[.string s, .int .i64 k] w (ReadPost s.size (decV (s.data.toList.drop k)) w) := by
  have hl : s.data.toList.drop k = s[k] :: s.data.toList.drop (k + 1) := by
    rw [List.drop_eq_getElem_cons (by rw [Array.length_toList]; exact h)]; rfl
  have hlen : (s.data.toList.drop (k + 1)).length = s.size - (k + 1) := drop_place s _
  rw [hl, decV, decX]
  have hof : ∀ n : Nat, n < 256 → s[k].toNat = n → s[k] = UInt8.ofNat n := fun n hn e => UInt8.toNat_inj.mp (by rw [UInt8.toNat_ofNat']; omega)
  by_cases h0 : s[k] = 0
  · rw [if_neg (by rw [h0]; decide), if_neg (by rw [h0]; decide), if_neg (by rw [h0]; decide), if_neg (by rw [h0]; decide)]
    exact refRead_low s k w h h0
  by_cases h1 : s[k] = 1
  · rw [if_pos h1]
    exact refRead_null s k w h h1 hs
  rw [if_neg h1]
  by_cases h2 : s[k] = 2
  · rw [if_pos h2]
    by_cases hk : k + 1 < s.size
    · have hl2 : s.data.toList.drop (k + 1) = s[k + 1] :: s.data.toList.drop (k + 2) := by
        rw [List.drop_eq_getElem_cons (by rw [Array.length_toList]; exact hk)]; rfl
      rw [hl2, decB]
      by_cases hb : s[k + 1].toNat ≤ 1
      · rw [if_pos hb]
        exact refRead_bool s k w hk h2 hb hs
      · rw [if_neg hb]
        exact refRead_bool_no s k w hk h2 hb hs
    · have : s.data.toList.drop (k + 1) = [] := List.eq_nil_of_length_eq_zero (by omega)
      rw [this, decB]
      exact refRead_bool_short s k w (by omega) h2 hs
  rw [if_neg h2]
  by_cases h3 : s[k] = 3
  · rw [if_pos (.inl h3), hlen]
    by_cases h8 : s.size - (k + 1) < 8
    · rw [if_pos h8]; exact refRead_int_short s k w h h3 h8 hs
    · rw [if_neg h8, List.drop_drop, h3]; exact refRead_int s k w h h3 h8 hs
  by_cases h4 : s[k] = 4
  · rw [if_pos (.inr h4), hlen]
    by_cases h8 : s.size - (k + 1) < 8
    · rw [if_pos h8]; exact refRead_dec_short s k w h h4 h8 hs
    · rw [if_neg h8, List.drop_drop, h4]; exact refRead_dec s k w h h4 h8 hs
  rw [if_neg (fun e => e.elim h3 h4)]
  by_cases h5 : s[k] = 5
  · rw [if_pos (.inl h5), h5]
    cases hu : unesc (s.data.toList.drop (k + 1)) with
    | none => exact refRead_text_none s k w h h5 hu hs
    | some p =>
      rw [decT]
      show Calls _ _ _ _ (ReadPost _ (if rightD ⟨4, 0, ⟨p.1.toArray⟩⟩ = true then some (⟨4, 0, ⟨p.1.toArray⟩⟩, p.2) else none) w)
      cases hr : rightD ⟨4, 0, ⟨p.1.toArray⟩⟩
      · exact refRead_text_false s k w h h5 p hu hr hs
      · exact refRead_text_true s k w h h5 p hu hr hs
  by_cases h6 : s[k] = 6
  · rw [if_pos (.inr h6), h6]
    cases hu : unesc (s.data.toList.drop (k + 1)) with
    | none => exact refRead_bytes_none s k w h h6 hu hs
    | some p =>
      rw [decT]
      show Calls _ _ _ _ (ReadPost _ (if rightD ⟨5, 0, ⟨p.1.toArray⟩⟩ = true then some (⟨5, 0, ⟨p.1.toArray⟩⟩, p.2) else none) w)
      cases hr : rightD ⟨5, 0, ⟨p.1.toArray⟩⟩
      · exact refRead_bytes_false s k w h h6 p hu hr hs
      · exact refRead_bytes_true s k w h h6 p hu hr hs
  rw [if_neg (fun e => e.elim h5 h6)]
  refine refRead_high s k w h ?_
  have n : ∀ q : Nat, q < 256 → s[k] ≠ UInt8.ofNat q → s[k].toNat ≠ q := fun q hq hne e => hne (hof q hq e)
  have n0 := n 0 (by omega) h0
  have n1 := n 1 (by omega) h1
  have n2 := n 2 (by omega) h2
  have n3 := n 3 (by omega) h3
  have n4 := n 4 (by omega) h4
  have n5 := n 5 (by omega) h5
  have n6 := n 6 (by omega) h6
  omega

/-- A place counted from the end. -/
theorem drop_back (s : ByteArray) (t : List UInt8) (hs : ∃ l, s.data.toList = l ++ t) : s.data.toList.drop (s.size - t.length) = t := by
  obtain ⟨l, hl⟩ := hs
  have hz : s.size = l.length + t.length := by rw [← toL_len, hl, List.length_append]
  rw [hl, hz, Nat.add_sub_cancel, List.drop_left]

set_option maxRecDepth 100000 in
set_option maxHeartbeats 4000000 in
theorem refDecode_any (s : ByteArray) (w : World) (hs : s.size ≤ 140737488351232) :
    Calls Tryd.prog 18 #[.string s] w (DecPost (decR 1000 s.data.toList) w) := by
  go_enter Tryd.func18, Tryd.ntmps18
  go_wp2
  go_loopw [5, 4] (fun q u wr => ∃ (k : Nat) (l : List Dat), q = .int .i64 k ∧ k ≤ s.size ∧ OwnD wr w.heap.size u l ∧ l.length ≤ 1000 ∧ Below w.heap.size w wr ∧ Hid ((decR (1000 - l.length) (s.data.toList.drop k)).map (l ++ ·) = decR 1000 s.data.toList)) (fun q _ _ => s.size - (intOf q).toNat)
  case atStart => exact ⟨0, [], rfl, by omega, OwnD.lit0 w _ (Nat.le_refl _), by simp, (Below.refl _ _).alloc (Nat.le_refl _) _, by unfold Hid; simp⟩
  case round =>
    obtain ⟨k, l, rfl, hk, ho, hl, hb, HR⟩ := hrel
    have hz := hb.size
    obtain ⟨A, c, rfl⟩ := ho.shape
    by_cases h0 : k = s.size
    · subst h0
      have HV : Hid (decR 1000 s.data.toList = some l) := by
        unfold Hid
        rw [← HR.out, List.drop_eq_nil_of_le (by rw [toL_len]; exact Nat.le_refl _)]
        cases 1000 - l.length <;> simp [decR]
      clear HR
      go_wp2
      go_ret2
      refine ⟨hb, ?_⟩
      rw [HV.out]
      exact ⟨_, rfl, ho⟩
    · have hlt : k < s.size := by omega
      have HC : Hid (Calls Tryd.prog 33 #[.string s, .int .i64 k] wr (ReadPost s.size (decV (s.data.toList.drop k)) wr)) := refRead_any s k wr hlt hs
      obtain ⟨x, r, hxr⟩ : ∃ x r, s.data.toList.drop k = x :: r := ⟨_, _, List.drop_eq_getElem_cons (by rw [Array.length_toList]; exact hlt)⟩
      cases hdv : decV (s.data.toList.drop k) with
      | none =>
        have HV : Hid (decR 1000 s.data.toList = none) := by
          unfold Hid
          rw [← HR.out, hxr]
          rw [hxr] at hdv
          cases 1000 - l.length with
          | zero => rfl
          | succ n => simp [decR, hdv]
        rw [hdv] at HC
        clear hdv HR hxr h0
        go_wp2_with (go_at_call 33; refine HC.out.mono ?_; rintro e w1 ⟨hb1, k5, i5, t5, rfl⟩)
        go_ret2
        refine ⟨(hb.trans (hb1.mono hz)).alloc (by have := hb1.size; omega) _, ?_⟩
        rw [HV.out]
        rfl
      | some p =>
        obtain ⟨d, q⟩ := p
        have hql : q.length < s.size - k := by have := decV_len _ _ _ hdv; rwa [drop_place] at this
        obtain ⟨hsd, hdr, hdi⟩ := decV_sound _ _ _ hdv
        have hdq : s.data.toList.drop (s.size - q.length) = q := drop_back s q ⟨s.data.toList.take k ++ encD d, by rw [List.append_assoc, ← hsd, List.take_append_drop]⟩
        rw [hdv] at HC
        have hto : ¬ (s.size : Int) - q.length < 0 := by omega
        by_cases hfull : l.length = 1000
        · have HV : Hid (decR 1000 s.data.toList = none) := by
            unfold Hid
            rw [← HR.out, hxr, hfull]
            rfl
          clear hdv HR hxr h0 hdq hsd
          have hfz : (1000 : Int) ≤ l.length := by omega
          clear hfull
          go_wp2_with (go_at_call 33; refine HC.out.mono ?_; rintro e w1 ⟨hb1, hle, rfl⟩)
          go_ret2
          refine ⟨(hb.trans (hb1.mono hz)).alloc (by have := hb1.size; omega) _, ?_⟩
          rw [HV.out]
          rfl
        · have HR2 : Hid ((decR (1000 - (l ++ [d]).length) (s.data.toList.drop (s.size - q.length))).map ((l ++ [d]) ++ ·) = decR 1000 s.data.toList) := by
            unfold Hid
            rw [hdq, ← HR.out, hxr]
            rw [hxr] at hdv
            obtain ⟨n, hn⟩ : ∃ n, 1000 - l.length = n + 1 := ⟨999 - l.length, by omega⟩
            have hn2 : 1000 - (l ++ [d]).length = n := by simp; omega
            rw [hn, hn2, decR, hdv]
            simp
            rfl
          have hfz : ¬ (1000 : Int) ≤ l.length := by omega
          clear hdv HR hxr h0 hdq hsd
          have HO : Hid (∀ w1, Below wr.heap.size wr w1 → OwnD ((w1.alloc (.cells #[.int .i64 d.k, .int .i64 d.i, .string d.s] 37)).alloc (.cells #[.int .i64 d.k, .int .i64 d.i, .string d.s] 37)) w.heap.size (.slice A l.length c) l) := fun w1 hb1 => ((ho.below hb1).alloc _).alloc _
          clear ho
          go_wp2_with (first
            | (go_at_call 33; refine HC.out.mono ?_; rintro e w1 ⟨hb1, hle, rfl⟩; have hz1 := hb1.size)
            | (at_builtin; refine wpList_append_dats _ rfl (.tmp 26) (.tmp 28) rfl w.heap.size _ _ l [d] rfl rfl (HO.out _ hb1) (rowV_lit _ d _ (by simp)) (by simp; omega) (by simp; omega) ?_))
          intro v3 w3 ho3 hg
          have hb3 := Below.trans (((hb.trans (hb1.mono hz)).alloc (by omega) _).alloc (by simp; omega) _) (ownD_below (HO.out _ hb1) (by simp; omega) hg)
          clear hg
          go_wp2
          go_roundw
          case rel => exact ⟨s.size - q.length, l ++ [d], by go_num, by omega, ho3, by simp; omega, hb3, HR2⟩
          case measure => simp [intOf]; omega

end Go.Proofs.YtoikbdgbhgokaaaDoor
