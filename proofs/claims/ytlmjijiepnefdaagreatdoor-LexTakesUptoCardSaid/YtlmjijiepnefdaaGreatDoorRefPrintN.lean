/-
  The contract of the reference's Print of a DEC.
-/
import Derived.Test.YtlmjijiepnefdaaGreatDoorRefPrint
namespace Go.Proofs.YtlmjijiepnefdaaGreatDoor
open Go.RowKit

/-- Four digits out of fewer: noughts ahead. -/
theorem pad_four (r j : Nat) (h : r < 10000) (hj : (List.replicate j (48 : UInt8) ++ Lib.decDigits r).length = 4) : List.replicate j (48 : UInt8) ++ Lib.decDigits r = four r := by
  obtain ⟨l1, l2, l3, l4⟩ := dec_len (r := r)
  rw [List.length_append, List.length_replicate] at hj
  rcases Nat.lt_or_ge r 10 with h1 | h1
  · rw [l1 h1] at hj
    obtain rfl : j = 3 := by omega
    exact dec_one h1
  rcases Nat.lt_or_ge r 100 with h2 | h2
  · rw [l2 h1 h2] at hj
    obtain rfl : j = 2 := by omega
    exact dec_two h1 h2
  rcases Nat.lt_or_ge r 1000 with h3 | h3
  · rw [l3 h2 h3] at hj
    obtain rfl : j = 1 := by omega
    exact dec_three h2 h3
  · rw [l4 h3 h] at hj
    obtain rfl : j = 0 := by omega
    exact dec_four h3 h

theorem dec_len4 (r : Nat) (h : r < 10000) : (Lib.decDigits r).length ≤ 4 := by
  obtain ⟨l1, l2, l3, l4⟩ := dec_len (r := r)
  rcases Nat.lt_or_ge r 10 with h1 | h1
  · have := l1 h1; omega
  rcases Nat.lt_or_ge r 100 with h2 | h2
  · have := l2 h1 h2; omega
  rcases Nat.lt_or_ge r 1000 with h3 | h3
  · have := l3 h2 h3; omega
  · have := l4 h3 h; omega

theorem itoa_int (x : Int) (w : World) (h0 : 0 ≤ x) (h1 : x ≤ 9223372036854775807) (ht : Pow10 w) :
    Calls Tryz.prog 25 #[.int .i64 x] w (StrPost (Lib.decDigits x.toNat) w) := by
  have := itoa_any x (by omega) w ht
  have e : Lib.itoa x = Lib.decDigits x.toNat := by unfold Lib.itoa; rw [if_neg (by omega)]
  rwa [e] at this

theorem u64_neg (i : Int) (h : i < 0) (h2 : -9223372036854775808 ≤ i) : IntKind.u64.wrap (-IntKind.u64.wrap i) = (i.natAbs : Int) := by
  rw [IntKind.wrap_u64, IntKind.wrap_u64]; omega
theorem u64_pos (i : Int) (h : 0 ≤ i) (h2 : i ≤ 9223372036854775807) : IntKind.u64.wrap i = (i.natAbs : Int) := by
  rw [IntKind.wrap_u64]; omega

set_option maxHeartbeats 4000000 in
set_option maxRecDepth 100000 in
theorem rprint_dec (i : Int) (s : ByteArray) (w : World) (hi : -9223372036854775808 ≤ i ∧ i ≤ 9223372036854775807) (hT : Hid (Pow10 w)) (HR : Hid (∀ w' : World, Calls Tryz.prog 15 #[.agg #[.int .i64 3, .int .i64 i, .string s]] w' (RightPost true w'))) :
    Calls Tryz.prog 16 #[.agg #[.int .i64 3, .int .i64 i, .string s]] w (StrPost (decL i) w) := by
  obtain ⟨h0, h1⟩ := hi
  obtain ⟨a, ha⟩ : ∃ a : Nat, a = i.natAbs := ⟨_, rfl⟩
  have hb : (a : Int) ≤ 9223372036854775808 := by omega
  have HL : Hid (decL i = (if i < 0 then [45] else []) ++ (Lib.decDigits (a / 10000) ++ 46 :: four (a % 10000))) := by rw [ha]; rfl
  have HQ : Hid (((a : Int) / 10000).toNat = a / 10000) := by unfold Hid; omega
  have HM : Hid (((a : Int) % 10000).toNat = a % 10000) := by unfold Hid; omega
  by_cases hn : i < 0
  · have hu := u64_neg i hn h0
    rw [← ha] at hu
    clear ha
    have b0 : Below w.heap.size w (w.alloc (.cells #[.int .i64 3, .int .i64 i, .string s] 31)) := (Below.refl _ w).alloc (Nat.le_refl _) _
    go_enter Tryz.func16, Tryz.ntmps16
    go_wp2_with (go_at_call 15; (with_reducible refine (HR.out _).mono ?_); rintro e w1 ⟨rfl, hb⟩; have x0 := Blk.below (b := w.heap.size) (cs := #[.int .i64 3, .int .i64 i, .string s]) (t := 31) (Blk.at rfl) hb; have y0 := x0.cell 0; have y1 := x0.cell 1; have y2 := x0.cell 2; simp only [List.getElem?_toArray, List.getElem?_cons_zero, List.getElem?_cons_succ] at y0 y1 y2; have bw := b0.trans (hb.mono b0.size); clear hb b0)
    have bs := x0.lt
    clear x0
    have HT1 := Lib.hid (hT.out.below bw)
    refine (itoa_int _ _ (by omega) (by omega) HT1.out).mono ?_
    rintro e w2 ⟨rfl, hb2⟩
    rw [HM.out]
    have y1' := (hb2.cell (p := ⟨w.heap.size, 1, none⟩) (Nat.lt_of_lt_of_le (Nat.lt_succ_self _) bs)).trans y1
    have HT2 := Lib.hid (HT1.out.below hb2)
    have bw2 := bw.trans (hb2.mono bw.size)
    have hr : a % 10000 < 10000 := Nat.mod_lt _ (by decide)
    have hl := dec_len4 (a % 10000) hr
    clear y0 y1 y2 bw hb2 bs
    go_wp2_with fail
    go_loop [5] (fun v => ∃ j : Nat, (List.replicate j (48 : UInt8) ++ Lib.decDigits (a % 10000)).length ≤ 4 ∧ v = .string ⟨(List.replicate j (48 : UInt8) ++ Lib.decDigits (a % 10000)).toArray⟩) (fun v => match v with | .string s => 4 - s.size | _ => 0)
    case atStart => exact ⟨0, by simpa using hl, by simp⟩
    case round =>
      obtain ⟨j, hj, rfl⟩ := hrel
      have hp := pad_four (a % 10000) j hr
      have HP := Lib.hid hp
      clear hp
      generalize hp : List.replicate j (48 : UInt8) ++ Lib.decDigits (a % 10000) = p at *
      have HE := Lib.hid hp
      clear hp
      by_cases h4 : p.length < 4
      · go_wp2
        refine ⟨⟨j + 1, ?_, str_val _ _ ?_⟩, ?_⟩
        · rw [List.replicate_succ, List.cons_append, HE.out, List.length_cons]; omega
        · rw [List.replicate_succ, List.cons_append, HE.out]; simp [ByteArray.data_append]
        · show 4 - (({ data := #[48] } : ByteArray) ++ { data := p.toArray }).size < 4 - ({ data := p.toArray } : ByteArray).size
          have e1 : ({ data := p.toArray } : ByteArray).size = p.length := by simp [ByteArray.size]
          have e2 : (({ data := #[48] } : ByteArray) ++ { data := p.toArray }).size = p.length + 1 := by rw [ByteArray.size_append, e1]; show 1 + _ = _; omega
          omega
      · have hp4 : p = four (a % 10000) := HP.out (by omega)
        subst hp4
        have hlen : (four (a % 10000)).length ≤ 4 := hj
        clear HP HE h4 hj
        go_wp2_with fail
        refine (itoa_int _ _ (by omega) (by omega) HT2.out).mono ?_
        rintro e w3 ⟨rfl, hb3⟩
        rw [HQ.out]
        have bw3 := bw2.trans (hb3.mono bw2.size)
        have hl1 := nd_le (a / 10000) (by omega)
        clear HT1 HT2 HQ HM bw2 hb3
        generalize Lib.decDigits (a / 10000) = d at *
        generalize four (a % 10000) = g at *
        go_wp2
        go_ret
        refine ⟨str_ret _ _ ?_, bw3⟩
        rw [HL.out]
        first | rw [if_pos hn] | rw [if_neg (by omega)]
        simp [ByteArray.data_append]
  · have hu := u64_pos i (by omega) h1
    rw [← ha] at hu
    clear ha
    have b0 : Below w.heap.size w (w.alloc (.cells #[.int .i64 3, .int .i64 i, .string s] 31)) := (Below.refl _ w).alloc (Nat.le_refl _) _
    go_enter Tryz.func16, Tryz.ntmps16
    go_wp2_with (go_at_call 15; (with_reducible refine (HR.out _).mono ?_); rintro e w1 ⟨rfl, hb⟩; have x0 := Blk.below (b := w.heap.size) (cs := #[.int .i64 3, .int .i64 i, .string s]) (t := 31) (Blk.at rfl) hb; have y0 := x0.cell 0; have y1 := x0.cell 1; have y2 := x0.cell 2; simp only [List.getElem?_toArray, List.getElem?_cons_zero, List.getElem?_cons_succ] at y0 y1 y2; have bw := b0.trans (hb.mono b0.size); clear hb b0)
    have bs := x0.lt
    clear x0
    have HT1 := Lib.hid (hT.out.below bw)
    refine (itoa_int _ _ (by omega) (by omega) HT1.out).mono ?_
    rintro e w2 ⟨rfl, hb2⟩
    rw [HM.out]
    have y1' := (hb2.cell (p := ⟨w.heap.size, 1, none⟩) (Nat.lt_of_lt_of_le (Nat.lt_succ_self _) bs)).trans y1
    have HT2 := Lib.hid (HT1.out.below hb2)
    have bw2 := bw.trans (hb2.mono bw.size)
    have hr : a % 10000 < 10000 := Nat.mod_lt _ (by decide)
    have hl := dec_len4 (a % 10000) hr
    clear y0 y1 y2 bw hb2 bs
    go_wp2_with fail
    go_loop [5] (fun v => ∃ j : Nat, (List.replicate j (48 : UInt8) ++ Lib.decDigits (a % 10000)).length ≤ 4 ∧ v = .string ⟨(List.replicate j (48 : UInt8) ++ Lib.decDigits (a % 10000)).toArray⟩) (fun v => match v with | .string s => 4 - s.size | _ => 0)
    case atStart => exact ⟨0, by simpa using hl, by simp⟩
    case round =>
      obtain ⟨j, hj, rfl⟩ := hrel
      have hp := pad_four (a % 10000) j hr
      have HP := Lib.hid hp
      clear hp
      generalize hp : List.replicate j (48 : UInt8) ++ Lib.decDigits (a % 10000) = p at *
      have HE := Lib.hid hp
      clear hp
      by_cases h4 : p.length < 4
      · go_wp2
        refine ⟨⟨j + 1, ?_, str_val _ _ ?_⟩, ?_⟩
        · rw [List.replicate_succ, List.cons_append, HE.out, List.length_cons]; omega
        · rw [List.replicate_succ, List.cons_append, HE.out]; simp [ByteArray.data_append]
        · show 4 - (({ data := #[48] } : ByteArray) ++ { data := p.toArray }).size < 4 - ({ data := p.toArray } : ByteArray).size
          have e1 : ({ data := p.toArray } : ByteArray).size = p.length := by simp [ByteArray.size]
          have e2 : (({ data := #[48] } : ByteArray) ++ { data := p.toArray }).size = p.length + 1 := by rw [ByteArray.size_append, e1]; show 1 + _ = _; omega
          omega
      · have hp4 : p = four (a % 10000) := HP.out (by omega)
        subst hp4
        have hlen : (four (a % 10000)).length ≤ 4 := hj
        clear HP HE h4 hj
        go_wp2_with fail
        refine (itoa_int _ _ (by omega) (by omega) HT2.out).mono ?_
        rintro e w3 ⟨rfl, hb3⟩
        rw [HQ.out]
        have bw3 := bw2.trans (hb3.mono bw2.size)
        have hl1 := nd_le (a / 10000) (by omega)
        clear HT1 HT2 HQ HM bw2 hb3
        generalize Lib.decDigits (a / 10000) = d at *
        generalize four (a % 10000) = g at *
        go_wp2
        go_ret
        refine ⟨str_ret _ _ ?_, bw3⟩
        rw [HL.out]
        first | rw [if_pos hn] | rw [if_neg (by omega)]
        simp [ByteArray.data_append]

end Go.Proofs.YtlmjijiepnefdaaGreatDoor
