/-
  The contract of row's cutValue: the value with which bytes begin, and what stands behind; it makes memory of its own alone.
-/
import Derived.Test.YtoikbdgbhgokaaaDoorCutText
import Derived.Test.YtoikbdgbhgokaaaDoorValid
import Derived.Test.YtoikbdgbhgokaaaDoorXorPure
import Derived.RegionTactic
import Derived.ChangeAlike
import Derived.Deep.RegionWith
namespace Go.Proofs.YtoikbdgbhgokaaaDoor
open Go.RowKit

/-- cutValue answers c. -/
def CutPost (c : Option (Dat × List UInt8)) (w : World) (e : Ending) (w' : World) : Prop :=
  Below w.heap.size w w' ∧ match c with
  | some p => e = .returned (.tuple #[.agg #[.int .i64 p.1.k, .int .i64 p.1.i, .string p.1.s], .string ⟨p.2.toArray⟩, .bool true])
  | none => ∃ k i t b, e = .returned (.tuple #[.agg #[.int .i64 k, .int .i64 i, .string t], .string b, .bool false])

/-- What the value that was read comes to. -/
def outV (k i : Int) (t str : ByteArray) (b : Bool) : Option (Dat × List UInt8) := if b && rightD ⟨k, i, t⟩ then some (⟨k, i, t⟩, str.data.toList) else none

theorem cutNum_1 (s : ByteArray) (w : World) (h : 1 ≤ s.size) :
    Calls Tryd.prog 50 #[.string s, .int .i64 1] w fun e w' => e = .returned (.tuple #[.int .u64 (num8 (s.data.toList.take 1)), .string (s.extract 1 s.size), .bool true]) ∧ Below w.heap.size w w' := cutNum_any s 1 w h (by omega)
theorem cutNum_8 (s : ByteArray) (w : World) (h : 8 ≤ s.size) :
    Calls Tryd.prog 50 #[.string s, .int .i64 8] w fun e w' => e = .returned (.tuple #[.int .u64 (num8 (s.data.toList.take 8)), .string (s.extract 8 s.size), .bool true]) ∧ Below w.heap.size w w' := cutNum_any s 8 w h (by omega)
theorem cutNum_no1 (s : ByteArray) (w : World) (h : s.size < 1) :
    Calls Tryd.prog 50 #[.string s, .int .i64 1] w fun e w' => e = .returned (.tuple #[.int .u64 0, .string ⟨#[]⟩, .bool false]) ∧ w = w' := cutNum_short s 1 w h
theorem cutNum_no8 (s : ByteArray) (w : World) (h : s.size < 8) :
    Calls Tryd.prog 50 #[.string s, .int .i64 8] w fun e w' => e = .returned (.tuple #[.int .u64 0, .string ⟨#[]⟩, .bool false]) ∧ w = w' := cutNum_short s 8 w h

theorem Blk.set {w : World} {b : Nat} {cs : Array Value} {t : TypeId} (h : Blk w b cs t) (i : Nat) (u : Value) : Blk (w.setCell ⟨b, i, none⟩ u) b (cs.setIfInBounds i u) t := by
  unfold Blk at h ⊢
  simp [World.setCell, Array.getElem?_modify, h]

theorem ext_list (s : ByteArray) (k : Nat) : (s.extract k s.size).data.toList = s.data.toList.drop k := Lib.extract_to_end s k

theorem toL_nil (R : ByteArray) (h : R.size = 0) : R.data.toList = [] := List.eq_nil_of_length_eq_zero (by rw [Array.length_toList]; exact h)
theorem toL_len (R : ByteArray) : R.data.toList.length = R.size := by rw [Array.length_toList]; rfl

theorem xor_back (N : Nat) (h : N < 18446744073709551616) : IntKind.i64.wrap (bits .xor .u64 (N : Int) 9223372036854775808) = back N := by
  have hx := u64_xor_nat N 9223372036854775808 (by omega) (by omega)
  rw [show (9223372036854775808 : Int) = ((9223372036854775808 : Nat) : Int) from rfl, hx, IntKind.wrap_i64]
  unfold back
  rcases Nat.lt_or_ge N 9223372036854775808 with h1 | h1
  · rw [show (9223372036854775808 : Nat) = 2 ^ 63 from rfl, xor_lo _ (by omega)]
    omega
  · rw [show (9223372036854775808 : Nat) = 2 ^ 63 from rfl, xor_hi _ (by omega) (by omega)]
    omega

theorem wrap64_is (x : Int) : wrap64 x = IntKind.i64.wrap x := by
  rw [IntKind.wrap_i64]; unfold wrap64; omega
theorem xor_back64 (N : Nat) (h : N < 18446744073709551616) : wrap64 (bits .xor .u64 (N : Int) 9223372036854775808) = back N := by
  rw [wrap64_is]; exact xor_back N h

theorem outV_no (k i : Int) (t str : ByteArray) : outV k i t str false = none := rfl

theorem cutPost_of {l : List UInt8} {w W' : World} {k i : Int} {t str : ByteArray} {b : Bool} (hb : Below w.heap.size w W') (hV : decV l = outV k i t str b) :
    CutPost (decV l) w (.returned (.tuple #[.agg #[.int .i64 k, .int .i64 i, .string t], .string str, .bool (b && rightD ⟨k, i, t⟩)])) W' := by
  refine ⟨hb, ?_⟩
  rw [hV]
  unfold outV
  cases h : (b && rightD ⟨k, i, t⟩)
  · exact ⟨_, _, _, _, rfl⟩
  · rfl

set_option maxRecDepth 100000 in
set_option maxHeartbeats 4000000 in
theorem cutVal_any (s : ByteArray) (w : World) (h : 1 ≤ s.size) (hs : s.size ≤ 140737488355328) (hT : Tabs w) :
    Calls Tryd.prog 32 #[.string s] w (CutPost (decV s.data.toList) w) := by
  have hz : (1 : Int) ≤ s.size := by omega
  have h0 : (0 : Int) < s.size := by omega
  have h0n : 0 < s.size := by omega
  have hbyte : s[0].toNat < 256 := s[0].toNat_lt
  have HT := Lib.hid hT
  clear hT
  go_enter Tryd.func32, Tryd.ntmps32
  go_wp2
  go_region
  rename_i K0 hK0
  change K0 _ _
  refine hK0 _ _ ?_
  clear hK0
  have hlist : s.data.toList = s[0] :: (s.extract 1 s.size).data.toList := by
    rw [ext_list]
    have := List.drop_eq_getElem_cons (l := s.data.toList) (i := 0) (by rw [Array.length_toList]; exact h0n)
    rw [List.drop_zero] at this
    exact this
  have hsz : (s.extract 1 s.size).size + 1 = s.size := by rw [Lib.ext_size]; omega
  have hDec : decV s.data.toList = decX s[0] (s.extract 1 s.size).data.toList := by rw [hlist]; rfl
  obtain ⟨K, hK⟩ : ∃ K : Int, (s[0].toNat : Int) - 1 = K := ⟨_, rfl⟩
  rw [hK]
  have hx : ∀ n : Nat, n < 256 → (n : Int) - 1 = K → s[0] = UInt8.ofNat n := by
    intro n hn e
    apply UInt8.toNat_inj.mp
    rw [UInt8.toNat_ofNat']
    omega
  have hxK : ∀ n : Nat, n < 256 → s[0] = UInt8.ofNat n → K = (n : Int) - 1 := by
    intro n hn e
    rw [← hK, e, UInt8.toNat_ofNat']
    omega
  have HX := Lib.hid hx
  have HXK := Lib.hid hxK
  have HDEC := Lib.hid hDec
  have HKK := Lib.hid hK
  have hRs : (s.extract 1 s.size).size ≤ 140737488355328 := by omega
  clear hx hxK hDec hK hlist
  have hB0 : Below w.heap.size w ((w.alloc (.cells #[.int .i64 K, .int .i64 0, .string ⟨#[]⟩] 37)).drew) := ((Below.refl _ _).alloc (Nat.le_refl _) _).drew
  have hD0 : Blk ((w.alloc (.cells #[.int .i64 K, .int .i64 0, .string ⟨#[]⟩] 37)).drew) w.heap.size #[.int .i64 K, .int .i64 0, .string ⟨#[]⟩] 37 := Blk.new w _ 37
  have HB0 := Lib.hid hB0
  have HD0 := Lib.hid hD0
  clear hB0 hD0
  revert HDEC HB0 HD0 hsz hRs
  generalize s.extract 1 s.size = R
  intro hsz HDEC hRs HB0 HD0
  go_upto_block 0 with fail
  go_cut [3, 4] (fun r o W => ∃ (k i : Int) (t str : ByteArray) (b : Bool), r = .string str ∧ o = .bool b ∧ Below w.heap.size w W ∧ Blk W w.heap.size #[.int .i64 k, .int .i64 i, .string t] 37 ∧ Hid (decV s.data.toList = outV k i t str b))
  case first =>
    by_cases k0 : K = 0
    · subst k0
      have HV : Hid (decV s.data.toList = outV 0 0 ⟨#[]⟩ R true) := by
        unfold Hid
        rw [HDEC.out, HX.out 1 (by omega) (by omega)]
        rfl
      go_wp2
      go_meet
      exact ⟨0, 0, ⟨#[]⟩, R, true, rfl, rfl, HB0.out, HD0.out, HV⟩
    by_cases k1 : K = 1
    · subst k1
      by_cases hr : R.size < 1
      · have HV : Hid (decV s.data.toList = none) := by
          unfold Hid
          rw [HDEC.out, HX.out 2 (by omega) (by omega)]
          rw [toL_nil R (by omega)]; rfl
        have HR := Lib.hid hr
        clear hr k0
        go_wp2_with (go_at_call 50; refine (cutNum_no1 R _ HR.out).mono ?_; rintro e w1 ⟨rfl, rfl⟩)
        go_meet
        exact ⟨1, 0, ⟨#[]⟩, _, false, rfl, rfl, HB0.out, HD0.out, by rw [outV_no]; exact HV⟩
      · have hr' : 1 ≤ R.size := by omega
        obtain ⟨N, hN, HV⟩ : ∃ N : Nat, num8 (R.data.toList.take 1) = N ∧ N < 256 ∧ decV s.data.toList = outV 1 N ⟨#[]⟩ (R.extract 1 R.size) true := by
          refine ⟨_, rfl, ?_, ?_⟩
          · have := num8_bound (R.data.toList.take 1)
            rw [List.length_take, toL_len, Nat.min_eq_left hr'] at this
            simpa using this
          · rw [HDEC.out, HX.out 2 (by omega) (by omega)]
            unfold outV
            rw [ext_list]
            cases hL : R.data.toList with
            | nil => have := toL_len R; rw [hL] at this; simp at this; omega
            | cons b t =>
              show decB (b :: t) = _
              rw [decB]
              have hb := b.toNat_lt
              have e : num8 (List.take 1 (b :: t)) = b.toNat := by simp [num8]
              rw [e]
              by_cases h1 : b.toNat ≤ 1
              · rw [if_pos h1]
                rcases (show b.toNat = 0 ∨ b.toNat = 1 by omega) with h | h <;> rw [h] <;> rfl
              · rw [if_neg h1, if_neg]
                unfold rightD
                rw [if_neg (show ¬ ((1 : Int) = 0) by decide), if_pos rfl]
                simp
                omega
        have HCn : Hid (∀ W, Calls Tryd.prog 50 #[.string R, .int .i64 1] W fun e w' => e = .returned (.tuple #[.int .u64 (N : Int), .string (R.extract 1 R.size), .bool true]) ∧ Below W.heap.size W w') := fun W => hN ▸ cutNum_1 R W hr'
        have hNb : (N : Int) < 256 := by have := HV.1; omega
        have HVV : Hid _ := HV.2
        clear hr hr' k0 hN HV
        go_wp2_with (go_at_call 50; refine (HCn.out _).mono ?_; rintro e w1 ⟨rfl, hb1⟩; have hb2 := HB0.out.trans (hb1.mono HB0.out.size); have hD1 := HD0.out.below hb1; have hlt1 := hD1.lt; have c1 := hD1.cell 1; have f1 := hD1.frozen 1; simp only [List.getElem?_toArray, List.getElem?_cons_zero, List.getElem?_cons_succ] at c1)
        go_meet
        exact ⟨1, _, ⟨#[]⟩, _, true, rfl, rfl, hb2.setCell (by simp) _, hD1.set 1 _, HVV⟩
    by_cases k2 : K = 2 ∨ K = 3
    · by_cases hr : R.size < 8
      · have HV : Hid (decV s.data.toList = none) := by
          unfold Hid
          rw [HDEC.out]
          rcases k2 with rfl | rfl
          · rw [HX.out 3 (by omega) (by omega)]; unfold decX; rw [if_neg (by decide), if_neg (by decide), if_pos (by decide), if_pos (by rw [toL_len]; exact hr)]
          · rw [HX.out 4 (by omega) (by omega)]; unfold decX; rw [if_neg (by decide), if_neg (by decide), if_pos (by decide), if_pos (by rw [toL_len]; exact hr)]
        have HR := Lib.hid hr
        clear hr k0 k1
        rcases k2 with rfl | rfl
        all_goals
          go_wp2_with (go_at_call 50; refine (cutNum_no8 R _ HR.out).mono ?_; rintro e w1 ⟨rfl, rfl⟩)
          go_meet
          exact ⟨_, _, ⟨#[]⟩, _, false, rfl, rfl, ((Below.refl _ _).alloc (Nat.le_refl _) _).drew, Blk.new w _ 37, by rw [outV_no]; exact HV⟩
      · have hr' : 8 ≤ R.size := by omega
        have hl : (R.data.toList.take 8).length = 8 := by rw [List.length_take, toL_len]; omega
        obtain ⟨N, hN, hNb, HV⟩ : ∃ N : Nat, num8 (R.data.toList.take 8) = N ∧ N < 18446744073709551616 ∧ decV s.data.toList = outV K (back N) ⟨#[]⟩ (R.extract 8 R.size) true := by
          refine ⟨_, rfl, num8_lt _ hl, ?_⟩
          rw [HDEC.out]
          have hr8 : ¬ R.data.toList.length < 8 := by rw [toL_len]; exact hr
          unfold outV
          rw [ext_list]
          rcases k2 with rfl | rfl
          · rw [HX.out 3 (by omega) (by omega)]; unfold decX; rw [if_neg (by decide), if_neg (by decide), if_pos (by decide), if_neg hr8]; rfl
          · rw [HX.out 4 (by omega) (by omega)]; unfold decX; rw [if_neg (by decide), if_neg (by decide), if_pos (by decide), if_neg hr8]; rfl
        have HCn : Hid (∀ W, Calls Tryd.prog 50 #[.string R, .int .i64 8] W fun e w' => e = .returned (.tuple #[.int .u64 (N : Int), .string (R.extract 8 R.size), .bool true]) ∧ Below W.heap.size W w') := fun W => hN ▸ cutNum_8 R W hr'
        have hx := xor_back64 N hNb
        rw [← hx] at HV
        have HVV := Lib.hid HV
        clear hr hr' k0 k1 hN hNb HV hl hx
        rcases k2 with rfl | rfl
        all_goals
          go_wp2_with (go_at_call 50; refine (HCn.out _).mono ?_; rintro e w1 ⟨rfl, hb1⟩; have hb2 := HB0.out.trans (hb1.mono HB0.out.size); have hD1 := HD0.out.below hb1; have hlt1 := hD1.lt; have c1 := hD1.cell 1; have f1 := hD1.frozen 1; simp only [List.getElem?_toArray, List.getElem?_cons_zero, List.getElem?_cons_succ] at c1)
          go_meet
          exact ⟨_, _, ⟨#[]⟩, _, true, rfl, rfl, hb2.setCell (by simp) _, hD1.set 1 _, HVV⟩
    by_cases k4 : K = 4 ∨ K = 5
    · have HDT : Hid (decV s.data.toList = decT K (unesc R.data.toList)) := by
        unfold Hid
        rw [HDEC.out]
        rcases k4 with rfl | rfl
        · rw [HX.out 5 (by omega) (by omega)]; unfold decX; rw [if_neg (by decide), if_neg (by decide), if_neg (by decide), if_pos (by decide)]; rfl
        · rw [HX.out 6 (by omega) (by omega)]; unfold decX; rw [if_neg (by decide), if_neg (by decide), if_neg (by decide), if_pos (by decide)]; rfl
      have HC5 : Hid (∀ W, Calls Tryd.prog 51 #[.string R] W (TextPost (cutT R.data.toList) W)) := fun W => cutText_any R W hRs
      cases hc : cutT R.data.toList with
      | none =>
        rw [hc] at HC5
        have HV : Hid (decV s.data.toList = none) := by
          unfold Hid
          rw [HDT.out]
          cases hu : unesc R.data.toList with
          | none => rfl
          | some p =>
            rw [decT, if_neg]
            intro hr
            have h1 := rightD_size _ hr
            have h2 : p.1.length ≤ 1000 := by simpa [ByteArray.size] using h1
            unfold cutT at hc
            rw [hu] at hc
            simp at hc
            omega
        clear hc k0 k1 k2 HDT
        rcases k4 with rfl | rfl
        all_goals
          go_wp2_with (go_at_call 51; refine (HC5.out _).mono ?_; rintro e w1 ⟨hb1, a5, b5, rfl⟩; have hb2 := HB0.out.trans (hb1.mono HB0.out.size); have hD1 := HD0.out.below hb1; have hlt1 := hD1.lt; have c2 := hD1.cell 2; have f2 := hD1.frozen 2; simp only [List.getElem?_toArray, List.getElem?_cons_zero, List.getElem?_cons_succ] at c2)
          go_meet
          exact ⟨_, _, _, _, false, rfl, rfl, hb2.setCell (by simp) _, hD1.set 2 _, by rw [outV_no]; exact HV⟩
      | some p =>
        rw [hc] at HC5
        have HV : Hid (decV s.data.toList = outV K 0 ⟨p.1.toArray⟩ ⟨p.2.toArray⟩ true) := by
          unfold Hid
          rw [HDT.out]
          unfold cutT at hc
          cases hu : unesc R.data.toList with
          | none => rw [hu] at hc; cases hc
          | some q =>
            rw [hu] at hc
            simp at hc
            obtain ⟨_, rfl⟩ := hc
            rw [decT]
            unfold outV
            simp
        clear hc k0 k1 k2 HDT
        rcases k4 with rfl | rfl
        all_goals
          go_wp2_with (go_at_call 51; refine (HC5.out _).mono ?_; rintro e w1 ⟨hb1, rfl⟩; have hb2 := HB0.out.trans (hb1.mono HB0.out.size); have hD1 := HD0.out.below hb1; have hlt1 := hD1.lt; have c2 := hD1.cell 2; have f2 := hD1.frozen 2; simp only [List.getElem?_toArray, List.getElem?_cons_zero, List.getElem?_cons_succ] at c2)
          go_meet
          exact ⟨_, _, _, _, true, rfl, rfl, hb2.setCell (by simp) _, hD1.set 2 _, HV⟩
    · have HV : Hid (decV s.data.toList = outV K 0 ⟨#[]⟩ R true) := by
        unfold Hid
        rw [HDEC.out]
        have n : ∀ q : Nat, q < 256 → ((q : Int) - 1 ≠ K) → s[0] ≠ UInt8.ofNat q := fun q hq hne e => hne (HXK.out q hq e).symm
        have n1 : s[0] ≠ (1 : UInt8) := n 1 (by omega) (by omega)
        have n2 : s[0] ≠ (2 : UInt8) := n 2 (by omega) (by omega)
        have n3 : s[0] ≠ (3 : UInt8) := n 3 (by omega) (by omega)
        have n4 : s[0] ≠ (4 : UInt8) := n 4 (by omega) (by omega)
        have n5 : s[0] ≠ (5 : UInt8) := n 5 (by omega) (by omega)
        have n6 : s[0] ≠ (6 : UInt8) := n 6 (by omega) (by omega)
        have hr : rightD ⟨K, 0, ⟨#[]⟩⟩ = false := by
          unfold rightD
          rw [if_neg k0, if_neg k1, if_neg k2, if_neg (fun h => k4 (.inl h)), if_neg (fun h => k4 (.inr h))]
        unfold decX outV
        rw [hr, if_neg n1, if_neg n2, if_neg (fun h => h.elim n3 n4), if_neg (fun h => h.elim n5 n6)]
        rfl
      have e1 : (K == 1) = false := by simpa using k1
      have e2 : (K == 2) = false := by simp; omega
      have e3 : (K == 3) = false := by simp; omega
      have e4 : (K == 4) = false := by simp; omega
      have e5 : (K == 5) = false := by simp; omega
      clear k0 k1 k2 k4
      go_wp2
      go_meet
      exact ⟨K, 0, ⟨#[]⟩, R, true, rfl, rfl, HB0.out, HD0.out, HV⟩
  case rest =>
    obtain ⟨k, i, t, str, b, rfl, rfl, hb, hD, HV⟩ := hcut
    have hz1 := hb.size
    have hlt := hD.lt
    have d0 := hD.cell 0
    have d1 := hD.cell 1
    have d2 := hD.cell 2
    have f0 := hD.frozen 0
    have f1 := hD.frozen 1
    have f2 := hD.frozen 2
    simp only [List.getElem?_toArray, List.getElem?_cons_zero, List.getElem?_cons_succ] at d0 d1 d2
    have HRt : Hid (∀ W, Below w.heap.size w W → Calls Tryd.prog 28 #[.agg #[.int .i64 k, .int .i64 i, .string t]] W (RightPost (rightD ⟨k, i, t⟩) W)) := fun W hb => right_any k i t W (HT.out.below hb)
    go_wp2_with fail
    cases b
    · go_region
      all_goals
        go_wp2
        have hF := ((hD.set 0 (.int .i64 k)).set 1 (.int .i64 i)).set 2 (.string t)
        have q0 : ((((wc.setCell ⟨w.heap.size, 0, none⟩ (.int .i64 k)).setCell ⟨w.heap.size, 1, none⟩ (.int .i64 i)).setCell ⟨w.heap.size, 2, none⟩ (.string t)).cell? ⟨w.heap.size, 0, none⟩) = some (.int .i64 k) := hF.cell 0
        have q1 : ((((wc.setCell ⟨w.heap.size, 0, none⟩ (.int .i64 k)).setCell ⟨w.heap.size, 1, none⟩ (.int .i64 i)).setCell ⟨w.heap.size, 2, none⟩ (.string t)).cell? ⟨w.heap.size, 1, none⟩) = some (.int .i64 i) := hF.cell 1
        have q2 : ((((wc.setCell ⟨w.heap.size, 0, none⟩ (.int .i64 k)).setCell ⟨w.heap.size, 1, none⟩ (.int .i64 i)).setCell ⟨w.heap.size, 2, none⟩ (.string t)).cell? ⟨w.heap.size, 2, none⟩) = some (.string t) := hF.cell 2
        refine bodyPost_ret (v := .tuple #[.agg #[.int .i64 k, .int .i64 i, .string t], .string str, .bool (false && rightD ⟨k, i, t⟩)]) ?_ rfl (cutPost_of ?_ HV.out)
        · simp [results, Tryd.results32, go_sem, q0, q1, q2]
        · exact (((hb.setCell (by simp) _).setCell (by simp) _).setCell (by simp) _).drew
    · go_region_with (go_at_call 28; refine (HRt.out _ hb.drew).mono ?_; rintro e w1 ⟨rfl, hb1⟩; have hE := hD.drew.below hb1; have hlt1 := hE.lt; have e0 := hE.cell 0; have e1 := hE.cell 1; have e2 := hE.cell 2; have g0 := hE.frozen 0; have g1 := hE.frozen 1; have g2 := hE.frozen 2; simp only [List.getElem?_toArray, List.getElem?_cons_zero, List.getElem?_cons_succ] at e0 e1 e2)
      all_goals
        go_wp2
        have hF := ((hE.set 0 (.int .i64 k)).set 1 (.int .i64 i)).set 2 (.string t)
        have q0 : ((((w1.setCell ⟨w.heap.size, 0, none⟩ (.int .i64 k)).setCell ⟨w.heap.size, 1, none⟩ (.int .i64 i)).setCell ⟨w.heap.size, 2, none⟩ (.string t)).cell? ⟨w.heap.size, 0, none⟩) = some (.int .i64 k) := hF.cell 0
        have q1 : ((((w1.setCell ⟨w.heap.size, 0, none⟩ (.int .i64 k)).setCell ⟨w.heap.size, 1, none⟩ (.int .i64 i)).setCell ⟨w.heap.size, 2, none⟩ (.string t)).cell? ⟨w.heap.size, 1, none⟩) = some (.int .i64 i) := hF.cell 1
        have q2 : ((((w1.setCell ⟨w.heap.size, 0, none⟩ (.int .i64 k)).setCell ⟨w.heap.size, 1, none⟩ (.int .i64 i)).setCell ⟨w.heap.size, 2, none⟩ (.string t)).cell? ⟨w.heap.size, 2, none⟩) = some (.string t) := hF.cell 2
        refine bodyPost_ret (v := .tuple #[.agg #[.int .i64 k, .int .i64 i, .string t], .string str, .bool (true && rightD ⟨k, i, t⟩)]) ?_ rfl (cutPost_of ?_ HV.out)
        · simp [results, Tryd.results32, go_sem, q0, q1, q2, Act.put]
        · exact ((((hb.drew.trans (hb1.mono hz1)).setCell (by simp) _).setCell (by simp) _).setCell (by simp) _)

end Go.Proofs.YtoikbdgbhgokaaaDoor
