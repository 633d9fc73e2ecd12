/-
  The contract of the reference's Encode: a row's bytes, or why it has none.
-/
import Derived.Test.YtoikbdgbhgokaaaDoorEnc
import Derived.Test.YtoikbdgbhgokaaaDoorRef
import Derived.Test.YtoikbdgbhgokaaaDoorRefRight
namespace Go.Proofs.YtoikbdgbhgokaaaDoor
open Go.RowKit

set_option maxRecDepth 100000 in
set_option maxHeartbeats 4000000 in
theorem refEncode_long (v : Value) (l : List Dat) (w : World) (hv : RowV w v l) (hl : 1000 < l.length) : Calls Tryd.prog 16 #[v] w (EncPost l w) := by
  have hE : encE l = 2 := by unfold encE; rw [if_pos hl]
  have HS : Hid (encS l = [] ∧ encE l = 2) := ⟨by unfold encS; rw [hE]; rfl, hE⟩
  clear hE
  rcases hv with ⟨_, rfl⟩ | ⟨b, off, cap, rfl, hm, hb, hr⟩
  · simp at hl
  · have hl' : (1000 : Int) < l.length := by omega
    clear hr
    go_enter Tryd.func16, Tryd.ntmps16
    go_wp2
    go_ret2
    exact ⟨by rw [HS.out.1, HS.out.2]; rfl, Below.refl _ _⟩

set_option maxRecDepth 100000 in
set_option maxHeartbeats 4000000 in
theorem refEncode_nil (w : World) : Calls Tryd.prog 16 #[.slice none 0 0] w (EncPost [] w) := by
  have hO : OwnB (w.alloc (.cells #[] 5)) w.heap.size (.slice (some ⟨w.heap.size, 0, none⟩) 0 0) [] := OwnB.lit w w.heap.size [] _ rfl (by omega) (by simp)
  have hc := run_string (w.alloc (.cells #[] 5)) w.heap.size (.slice (some ⟨w.heap.size, 0, none⟩) 0 0) [] hO
  clear hO
  go_enter Tryd.func16, Tryd.ntmps16
  go_wp2
  go_loopw [4, 13] (fun u i wr => u = .slice (some ⟨w.heap.size, 0, none⟩) 0 0 ∧ i = .int .i64 0 ∧ wr = w.alloc (.cells #[] 5)) (fun _ _ _ => 0)
  case atStart => exact ⟨rfl, rfl, rfl⟩
  case round =>
    obtain ⟨rfl, rfl, rfl⟩ := hrel
    go_wp2
    go_ret2
    exact ⟨rfl, (Below.refl _ _).alloc (Nat.le_refl _) _⟩

set_option maxRecDepth 100000 in
set_option maxHeartbeats 4000000 in
theorem refEncode_short (b off cap : Nat) (l : List Dat) (w : World) (hb0 : b < w.heap.size) (hr : RowAt w b off l) (hl : l.length ≤ 1000) (hI : ∀ d ∈ l, InI d) :
    Calls Tryd.prog 16 #[.slice (some ⟨b, off, none⟩) l.length cap] w (EncPost l w) := by
  have hl' : ¬ ((1000 : Int) < l.length) := by omega
  have HR := Lib.hid hr
  have HI := Lib.hid hI
  clear hr hI
  go_enter Tryd.func16, Tryd.ntmps16
  go_wp2
  go_loopw [4, 13] (fun u i wr => ∃ k : Nat, k ≤ l.length ∧ i = .int .i64 k ∧ OwnB wr w.heap.size u (encR (l.take k)) ∧ Below w.heap.size w wr ∧ Hid (∀ d ∈ l.take k, rightD d = true)) (fun _ i _ => l.length - (intOf i).toNat)
  case atStart => exact ⟨0, by omega, rfl, by simpa [encR] using OwnB.lit w w.heap.size [] _ rfl (by omega) (by simp), (Below.refl _ _).alloc (Nat.le_refl _) _, by unfold Hid; simp⟩
  case round =>
    obtain ⟨k, hk, rfl, ho, hb, HA⟩ := hrel
    have hz := hb.size
    by_cases hlt : k < l.length
    · have hd : l[k]? = some l[k] := List.getElem?_eq_getElem hlt
      obtain ⟨c0, c1, c2⟩ := HR.out k _ hd
      have hmem : l[k] ∈ l := List.getElem_mem hlt
      have hIk := HI.out _ hmem
      have hET := encR_take l k hlt
      have htl : ((l.take k)).length ≤ 1000 := by rw [List.length_take]; omega
      have hlen := encR_length (l.take k) HA.out
      have hAk : rightD l[k] = true → ∀ d ∈ l.take (k + 1), rightD d = true := by
        intro h d hdm
        rw [List.take_succ_eq_append_getElem hlt, List.mem_append] at hdm
        rcases hdm with hdm | hdm
        · exact HA.out d hdm
        · simp only [List.mem_singleton] at hdm; rw [hdm]; exact h
      have hNo : rightD l[k] = false → encS l = [] ∧ encE l = 1 := by
        intro h
        have hE : encE l = 1 := by
          unfold encE
          rw [if_neg (by omega), if_neg (fun ha => by have := List.all_eq_true.mp ha _ hmem; rw [h] at this; cases this)]
        exact ⟨by unfold encS; rw [hE]; rfl, hE⟩
      revert c0 c1 c2 hIk hET hAk hNo
      generalize l[k] = d
      obtain ⟨dk, di, ds⟩ := d
      intro c0 c1 c2 hIk hET hAk hNo
      have cr0 := hb.cell (p := ⟨b, off + k * 3, none⟩) hb0
      have cr1 := hb.cell (p := ⟨b, off + k * 3 + 1, none⟩) hb0
      have cr2 := hb.cell (p := ⟨b, off + k * 3 + 2, none⟩) hb0
      rw [c0] at cr0
      rw [c1] at cr1
      rw [c2] at cr2
      have hb1 : Below w.heap.size w (wr.alloc (.cells #[.int .i64 dk, .int .i64 di, .string ds] 37)) := hb.alloc hz _
      have HRt : Hid (Calls Tryd.prog 30 #[.agg #[.int .i64 dk, .int .i64 di, .string ds]] (wr.alloc (.cells #[.int .i64 dk, .int .i64 di, .string ds] 37)) (RightPost (rightD ⟨dk, di, ds⟩) (wr.alloc (.cells #[.int .i64 dk, .int .i64 di, .string ds] 37)))) := refRight_any dk di ds _
      have HB1 := Lib.hid hb1
      have HET := Lib.hid hET
      have HAK := Lib.hid hAk
      have HNO := Lib.hid hNo
      have HIK : Hid (-9223372036854775808 ≤ di ∧ di ≤ 9223372036854775807) := hIk
      have HL := Lib.hid hlen
      clear c0 c1 c2 hIk hET hAk hNo hd hmem hlen hb1
      cases hrd : rightD ⟨dk, di, ds⟩
      · rw [hrd] at HRt
        have HN := HNO.out hrd
        have HS := Lib.hid HN
        clear HN hrd
        go_wp2_with (go_at_call 30; refine HRt.out.mono ?_; rintro e w' ⟨rfl, hb1⟩)
        go_ret2
        exact ⟨by rw [HS.out.1, HS.out.2]; rfl, HB1.out.trans (hb1.mono (by simp; omega))⟩
      · rw [hrd] at HRt
        have HK : Hid (0 ≤ dk ∧ dk ≤ 5 ∧ ds.size ≤ 1000) := ⟨(rightD_kind _ hrd).1, (rightD_kind _ hrd).2, rightD_size _ hrd⟩
        have HA2 := Lib.hid (HAK.out hrd)
        clear hrd
        go_wp2_with (first
          | (go_at_call 30; refine HRt.out.mono ?_; rintro e w1 ⟨rfl, hb1⟩; have hD := (Blk.new wr #[.int .i64 dk, .int .i64 di, .string ds] 37).below hb1; have d0 := hD.cell 0; have d1 := hD.cell 1; have d2 := hD.cell 2; simp only [List.getElem?_toArray, List.getElem?_cons_zero, List.getElem?_cons_succ] at d0 d1 d2; have HO1 := Lib.hid ((ho.alloc (.cells #[.int .i64 dk, .int .i64 di, .string ds] 37)).below hb1); have HB2 := Lib.hid (HB1.out.trans (hb1.mono (by simp; omega))); have hz2 := HB2.out.size; clear hD ho hb1)
          | (go_at_call 31; refine (refValue dk di ds _ HK.out.1 HK.out.2.1 HIK HK.out.2.2).mono ?_; rintro e w2 ⟨v2, rfl, ho2, hb2⟩; obtain ⟨g, c2, rfl, hcells⟩ := ho2.form (by simp [encD]); have HC := Lib.hid hcells; have HO2 := Lib.hid (HO1.out.below hb2); have HB3 := Lib.hid (HB2.out.trans (hb2.mono hz2)); have hz3 := HB3.out.size; clear hcells ho2 hb2)
          | (at_builtin; refine wpList_append_bytes _ rfl _ _ rfl w.heap.size _ _ rfl HO2.out ⟨g, 0, none⟩ (encD ⟨dk, di, ds⟩) _ c2 rfl rfl HC.out (by have := HL.out; have := encD_length ⟨dk, di, ds⟩ HK.out.2.2; omega) (by omega) ?_))
        intro v3 w3 ho2 hg
        have hb3 := HB3.out.trans (own_below HO2.out (by omega) hg)
        clear hg
        have ho3 : OwnB w3 w.heap.size v3 (encR (l.take (k + 1))) := by rw [HET.out]; exact ho2
        clear ho2
        go_wp2
        go_roundw
        case rel => exact ⟨k + 1, by omega, by go_num, ho3, hb3, HA2⟩
        case measure => simp [intOf]; omega
    · obtain rfl : k = l.length := by omega
      have HA' : Hid (∀ d ∈ l, rightD d = true) := by have := HA.out; rwa [List.take_length] at this
      rw [List.take_length] at ho
      have hc := run_string wr w.heap.size _ _ ho
      have HS : Hid (encS l = encR l ∧ encE l = 0) := by
        have hE : encE l = 0 := by unfold encE; rw [if_neg (by omega), if_pos (List.all_eq_true.mpr HA'.out)]
        exact ⟨by unfold encS; rw [if_pos hE], hE⟩
      clear ho HA HA'
      go_wp2
      go_ret2
      exact ⟨by rw [HS.out.1, HS.out.2]; rfl, hb⟩

end Go.Proofs.YtoikbdgbhgokaaaDoor
