/-
  The contract of row's Print.
-/
import Derived.Test.YtoikbdgbhgokaaaDoorRowPrintP
import Derived.Test.YtoikbdgbhgokaaaDoorFrame
import Derived.Shelf.Strings.MapGrows
namespace Go.Proofs.YtoikbdgbhgokaaaDoor
open Go.RowKit

theorem lits_alloc {w : World} (h : Lits w) (o : Obj) : Lits (w.alloc o) := h.below ((Below.refl _ _).alloc (Nat.le_refl _) o)

theorem cells_40 (l : List UInt8) : Lib.byteCells (40 :: l) = [.int .u8 40] ++ Lib.byteCells l := rfl

set_option maxHeartbeats 8000000 in
set_option maxRecDepth 100000 in
theorem rowPrint_some (b off cap : Nat) (l : List Dat) (w : World) (hb0 : b < w.heap.size) (hr : RowAt w b off l) (hl : l.length ≤ 1048576) (hI : ∀ d ∈ l, InI d) (hL : Lits w) :
    Calls Tryd.prog 13 #[.slice (some ⟨b, off, none⟩) l.length cap] w (StrPost (40 :: (joinL l ++ [41])) w) := by
  have h0 : Lib.IsBuilderF 43 5 w.heap.size w.heap.size [] (w.alloc (.cells #[.pointer none, .slice none 0 0] 43)) := Lib.IsBuilderF.of (Lib.fresh_isBuilder 43 5 w)
  have b0 : Below w.heap.size w (w.alloc (.cells #[.pointer none, .slice none 0 0] 43)) := (Below.refl _ w).alloc (Nat.le_refl _) _
  have HR := Lib.hid hr
  have HI := Lib.hid hI
  have HL := Lib.hid hL
  clear hr hI hL
  go_enter Tryd.func13, Tryd.ntmps13
  go_wp2_with (go_at_call 23; refine (Tryd.Builder_WriteByte_k w.heap.size w.heap.size [] 40 _ h0 (by decide) b0.size).mono ?_)
  rintro e W1 ⟨rfl, h1, b1, _⟩
  rw [List.nil_append] at h1
  have bw := b0.trans b1
  clear b0 b1 h0
  go_wp2_with fail
  go_loopw [4, 5, 9] (fun _ _ i wr => ∃ k : Nat, k ≤ l.length ∧ i = .int .i64 k ∧ Below w.heap.size w wr ∧ Lib.BuilderAtF 43 5 w.heap.size w.heap.size (.pointer (some ⟨w.heap.size, 0, none⟩)) (Lib.byteCells (40 :: joinL (l.take k))) wr) (fun _ _ i _ => l.length - (intOf i).toNat)
  case atStart => exact ⟨0, Nat.zero_le _, rfl, bw, h1⟩
  case round =>
    obtain ⟨k, hk, rfl, bk, hB⟩ := hrel
    have hz := bk.size
    have HJ := Lib.hid (join_take_len l k HI.out hl)
    have hBl : w.heap.size < wr.heap.size := hB.lt
    by_cases hlt : k < l.length
    · have hd : l[k]? = some l[k] := List.getElem?_eq_getElem hlt
      obtain ⟨c0, c1, c2⟩ := HR.out k _ hd
      have hIk := HI.out _ (List.getElem_mem hlt)
      have hJz : k = 0 → joinL (l.take (k + 1)) = litDat l[k] := fun h => by subst h; exact join_zero l hlt
      have hJs : 0 < k → joinL (l.take (k + 1)) = joinL (l.take k) ++ (44 :: 32 :: litDat l[k]) := fun h => join_succ l k h hlt
      have hln := litDat_len _ hIk
      revert c0 c1 c2 hIk hJz hJs hln
      generalize l[k] = d
      obtain ⟨dk, di, ds⟩ := d
      intro c0 c1 c2 hIk hJz hJs hln
      have cr0 := hb0 |> bk.cell (p := ⟨b, off + k * 3, none⟩)
      have cr1 := hb0 |> bk.cell (p := ⟨b, off + k * 3 + 1, none⟩)
      have cr2 := hb0 |> bk.cell (p := ⟨b, off + k * 3 + 2, none⟩)
      rw [c0] at cr0
      rw [c1] at cr1
      rw [c2] at cr2
      have HLr := Lib.hid (HL.out.below bk)
      have HP : Hid (∀ W, Lits W → Calls Tryd.prog 25 #[.agg #[.int .i64 dk, .int .i64 di, .string ds]] W (StrPost (litDat ⟨dk, di, ds⟩) W)) := fun W hW => print_any dk di ds W hIk hW
      have HJZ := Lib.hid hJz
      have HJS := Lib.hid hJs
      have HLN := Lib.hid hln
      clear c0 c1 c2 hIk hJz hJs hln hd
      generalize litDat ⟨dk, di, ds⟩ = lit at *
      go_upto_region 6 with fail
      have bX : Blk (wr.alloc (.cells #[.int .i64 dk, .int .i64 di, .string ds] 37)) wr.heap.size #[.int .i64 dk, .int .i64 di, .string ds] 37 := Blk.new _ _ _
      have hB2 := Lib.BuilderAtF.below hB ((Below.refl _ _).alloc (Nat.le_refl _) (.cells #[.int .i64 dk, .int .i64 di, .string ds] 37))
      have bk2 : Below w.heap.size w (wr.alloc (.cells #[.int .i64 dk, .int .i64 di, .string ds] 37)) := bk.alloc hz _
      have HL2 := Lib.hid (lits_alloc HLr.out (.cells #[.int .i64 dk, .int .i64 di, .string ds] 37))
      have hsz : Hid ((⟨lit.toArray⟩ : ByteArray).size = lit.length) := by unfold Hid; simp [ByteArray.size]
      clear hB bk HLr
      generalize wr.alloc (.cells #[.int .i64 dk, .int .i64 di, .string ds] 37) = W2 at *
      by_cases h00 : k = 0
      · have hk0 : ¬ (0 : Int) < k := by omega
        have HZ := Lib.hid h00
        clear h00
        have y0 := bX.cell 0
        have y1 := bX.cell 1
        have y2 := bX.cell 2
        simp only [List.getElem?_toArray, List.getElem?_cons_zero, List.getElem?_cons_succ] at y0 y1 y2
        go_wp2_with fail
        refine (HP.out _ HL2.out).mono ?_
        rintro e W4 ⟨rfl, b4⟩
        have hB4 := Lib.BuilderAtF.below hB2 b4
        have bk4 := bk2.trans (b4.mono bk2.size)
        clear y0 y1 y2 bX
        go_wp2_with fail
        refine (Tryd.Builder_WriteString_k w.heap.size w.heap.size _ ⟨lit.toArray⟩ _ (Or.inr hB4) (by rw [Lib.byteCells_length, List.length_cons, hsz.out]; have h1 := HJ.out; have h2 := HLN.out; omega) bk4.size).mono ?_
        rintro e W5 ⟨rfl, hB5, b5, _⟩
        have bk5 := bk4.trans b5
        go_wp2_with fail
        go_roundw
        case rel =>
          refine ⟨k + 1, by omega, by go_num, bk5, ?_⟩
          rw [HJZ.out HZ.out]
          have e : Lib.byteCells (40 :: joinL (l.take k)) ++ Lib.strCells ⟨lit.toArray⟩ = Lib.byteCells (40 :: lit) := by rw [HZ.out]; simp [Lib.byteCells, Lib.strCells, joinL]
          rw [← e]; exact hB5
        case measure => simp [intOf]; omega
      · have hk0 : (0 : Int) < k := by omega
        have HZ : Hid (0 < k) := by unfold Hid; omega
        clear h00
        go_wp2_with fail
        refine (Tryd.Builder_WriteString_k w.heap.size w.heap.size _ ⟨#[44, 32]⟩ _ (Or.inr hB2) (by rw [Lib.byteCells_length, List.length_cons]; have h1 := HJ.out; have h3 : (⟨#[44, 32]⟩ : ByteArray).size = 2 := rfl; omega) bk2.size).mono ?_
        rintro e W3 ⟨rfl, hB3, b3, ho3⟩
        have bk3 := bk2.trans b3
        replace bX : Blk W3 wr.heap.size #[.int .i64 dk, .int .i64 di, .string ds] 37 := ho3 _ _ bX (by simp; omega) (by intro c fz h; cases h)
        have HL3 := Lib.hid (HL.out.below bk3)
        clear ho3 hB2
        have y0 := bX.cell 0
        have y1 := bX.cell 1
        have y2 := bX.cell 2
        simp only [List.getElem?_toArray, List.getElem?_cons_zero, List.getElem?_cons_succ] at y0 y1 y2
        go_wp2_with fail
        refine (HP.out _ HL3.out).mono ?_
        rintro e W4 ⟨rfl, b4⟩
        have hB4 := Lib.BuilderAtF.below hB3 b4
        have bk4 := bk3.trans (b4.mono bk3.size)
        clear y0 y1 y2 bX
        go_wp2_with fail
        refine (Tryd.Builder_WriteString_k w.heap.size w.heap.size _ ⟨lit.toArray⟩ _ (Or.inr hB4) (by rw [List.length_append, Lib.byteCells_length, List.length_cons, hsz.out, show (Lib.strCells ⟨#[44, 32]⟩).length = 2 from rfl]; have h1 := HJ.out; have h2 := HLN.out; omega) bk4.size).mono ?_
        rintro e W5 ⟨rfl, hB5, b5, _⟩
        have bk5 := bk4.trans b5
        go_wp2_with fail
        go_roundw
        case rel =>
          refine ⟨k + 1, by omega, by go_num, bk5, ?_⟩
          rw [HJS.out HZ.out]
          have e : Lib.byteCells (40 :: joinL (l.take k)) ++ Lib.strCells ⟨#[44, 32]⟩ ++ Lib.strCells ⟨lit.toArray⟩ = Lib.byteCells (40 :: (joinL (l.take k) ++ 44 :: 32 :: lit)) := by simp [Lib.byteCells, Lib.strCells]
          rw [← e]; exact hB5
        case measure => simp [intOf]; omega
    · have ht : l.take k = l := List.take_of_length_le (by omega)
      rw [ht] at hB HJ
      clear ht
      go_wp2_with fail
      refine (Tryd.Builder_WriteByte_k w.heap.size w.heap.size _ 41 _ (Or.inr hB) (by rw [Lib.byteCells_length, List.length_cons]; have h1 := HJ.out; omega) bk.size).mono ?_
      rintro e W2 ⟨rfl, h2, b2, _⟩
      have bk2 := bk.trans b2
      have h3 : Lib.IsBuilderF 43 5 w.heap.size w.heap.size (Lib.byteCells (40 :: (joinL l ++ [41]))) W2 := by
        refine Or.inr ?_
        have e : Lib.byteCells (40 :: (joinL l ++ [41])) = Lib.byteCells (40 :: joinL l) ++ [.int .u8 41] := by simp [Lib.byteCells]
        rw [e]; exact h2
      clear h2 hB
      go_wp2_with fail
      refine (Tryd.Builder_String_any_k w.heap.size w.heap.size _ _ h3 bk2.size).mono ?_
      rintro e W3 ⟨rfl, _, b3, _⟩
      have bk3 := bk2.trans b3
      go_wp2
      go_ret
      exact ⟨rfl, bk3⟩

set_option maxHeartbeats 4000000 in
set_option maxRecDepth 100000 in
theorem rowPrint_nil (w : World) : Calls Tryd.prog 13 #[.slice none 0 0] w (StrPost [40, 41] w) := by
  have h0 : Lib.IsBuilderF 43 5 w.heap.size w.heap.size [] (w.alloc (.cells #[.pointer none, .slice none 0 0] 43)) := Lib.IsBuilderF.of (Lib.fresh_isBuilder 43 5 w)
  have b0 : Below w.heap.size w (w.alloc (.cells #[.pointer none, .slice none 0 0] 43)) := (Below.refl _ w).alloc (Nat.le_refl _) _
  go_enter Tryd.func13, Tryd.ntmps13
  go_wp2_with (go_at_call 23; refine (Tryd.Builder_WriteByte_k w.heap.size w.heap.size [] 40 _ h0 (by decide) b0.size).mono ?_)
  rintro e W1 ⟨rfl, h1, b1, _⟩
  rw [List.nil_append] at h1
  have bw := b0.trans b1
  clear b0 b1 h0
  go_wp2_with fail
  go_loopw [4, 5, 9] (fun _ _ i wr => i = .int .i64 0 ∧ wr = W1) (fun _ _ _ _ => 0)
  case atStart => exact ⟨rfl, rfl⟩
  case round =>
    obtain ⟨rfl, rfl⟩ := hrel
    go_wp2_with fail
    refine (Tryd.Builder_WriteByte_k w.heap.size w.heap.size _ 41 _ (Or.inr h1) (by decide) bw.size).mono ?_
    rintro e W2 ⟨rfl, h2, b2, _⟩
    have bk2 := bw.trans b2
    have h3 : Lib.IsBuilderF 43 5 w.heap.size w.heap.size (Lib.byteCells [40, 41]) W2 := Or.inr h2
    clear h2 h1
    go_wp2_with fail
    refine (Tryd.Builder_String_any_k w.heap.size w.heap.size _ _ h3 bk2.size).mono ?_
    rintro e W3 ⟨rfl, _, b3, _⟩
    have bk3 := bk2.trans b3
    go_wp2
    go_ret
    exact ⟨rfl, bk3⟩

theorem rowPrint_any (v : Value) (l : List Dat) (w : World) (hv : RowV w v l) (hl : l.length ≤ 1048576) (hI : ∀ d ∈ l, InI d) (hL : Lits w) :
    Calls Tryd.prog 13 #[v] w (StrPost (40 :: (joinL l ++ [41])) w) := by
  rcases hv with ⟨rfl, rfl⟩ | ⟨b, off, cap, rfl, _, hb, hr⟩
  · exact rowPrint_nil w
  · exact rowPrint_some b off cap l w hb hr hl hI hL

end Go.Proofs.YtoikbdgbhgokaaaDoor
