/-
  The contracts of the reference's Print and Copy of rows.
-/
import Derived.Test.YtoikbdgbhgokaaaDoorRowPrint
import Derived.Test.YtoikbdgbhgokaaaDoorRefPrintB
import Derived.Test.YtoikbdgbhgokaaaDoorRefPrintN
import Derived.Test.YtoikbdgbhgokaaaDoorDatRow
namespace Go.Proofs.YtoikbdgbhgokaaaDoor
open Go.RowKit

theorem rprint_any (k i : Int) (s : ByteArray) (w : World) (hi : -9223372036854775808 ≤ i ∧ i ≤ 9223372036854775807) (hP : Pow10 w) :
    Calls Tryd.prog 27 #[.agg #[.int .i64 k, .int .i64 i, .string s]] w (StrPost (litD k i s) w) := by
  have HR : Hid (∀ w' : World, Calls Tryd.prog 30 #[.agg #[.int .i64 k, .int .i64 i, .string s]] w' (RightPost (rightD ⟨k, i, s⟩) w')) := fun w' => refRight_any k i s w'
  unfold litD
  cases hr : rightD ⟨k, i, s⟩
  · rw [hr] at HR
    exact rprint_no k i s w HR
  · rw [hr] at HR
    have hs := rightD_size ⟨k, i, s⟩ hr
    have hk := rightD_kind ⟨k, i, s⟩ hr
    simp only [] at hs hk
    rw [if_pos rfl]
    unfold litL
    have hcase : k = 0 ∨ k = 1 ∨ k = 2 ∨ k = 3 ∨ k = 4 ∨ k = 5 := by omega
    rcases hcase with rfl | rfl | rfl | rfl | rfl | rfl
    · exact rprint_null i s w HR
    · rcases (rightD_bool ⟨1, i, s⟩ hr rfl).1 with h | h
      · simp only [] at h
        subst h
        exact rprint_false s w HR
      · simp only [] at h
        subst h
        exact rprint_true s w HR
    · exact rprint_int i s w hi (Lib.hid hP) HR
    · exact rprint_dec i s w hi (Lib.hid hP) HR
    · exact rprint_text i s w hs HR
    · exact rprint_bytes i s w hs HR

set_option maxHeartbeats 8000000 in
set_option maxRecDepth 100000 in
theorem rrowPrint_some (b off cap : Nat) (l : List Dat) (w : World) (hb0 : b < w.heap.size) (hr : RowAt w b off l) (hl : l.length ≤ 1048576) (hI : ∀ d ∈ l, InI d) (hL : Pow10 w) :
    Calls Tryd.prog 14 #[.slice (some ⟨b, off, none⟩) l.length cap] w (StrPost (40 :: (joinL l ++ [41])) w) := by
  have HR := Lib.hid hr
  have HI := Lib.hid hI
  have HL := Lib.hid hL
  clear hr hI hL
  go_enter Tryd.func14, Tryd.ntmps14
  go_wp2_with fail
  go_loopw [3, 4, 5, 8] (fun v _ _ i wr => ∃ k : Nat, k ≤ l.length ∧ i = .int .i64 k ∧ Below w.heap.size w wr ∧ v = .string ⟨(40 :: joinL (l.take k)).toArray⟩) (fun _ _ _ i _ => l.length - (intOf i).toNat)
  case atStart => exact ⟨0, Nat.zero_le _, rfl, Below.refl _ _, rfl⟩
  case round =>
    obtain ⟨k, hk, rfl, bk, rfl⟩ := hrel
    have hz := bk.size
    have hj := join_take_len l k HI.out hl
    by_cases hlt : k < l.length
    · have hd : l[k]? = some l[k] := List.getElem?_eq_getElem hlt
      obtain ⟨c0, c1, c2⟩ := HR.out k _ hd
      have hIk := HI.out _ (List.getElem_mem hlt)
      have hJz : k = 0 → joinL (l.take (k + 1)) = litDat l[k] := fun h => by subst h; exact join_zero l hlt
      have hJs : 0 < k → joinL (l.take (k + 1)) = joinL (l.take k) ++ (44 :: 32 :: litDat l[k]) := fun h => join_succ l k h hlt
      have hln := litDat_len _ hIk
      revert c0 c1 c2 hIk hJz hJs hln
      generalize l[k] = d
      obtain ⟨dk, di, ds⟩ := d
      intro c0 c1 c2 hIk hJz hJs hln
      have cr0 := hb0 |> bk.cell (p := ⟨b, off + k * 3, none⟩)
      have cr1 := hb0 |> bk.cell (p := ⟨b, off + k * 3 + 1, none⟩)
      have cr2 := hb0 |> bk.cell (p := ⟨b, off + k * 3 + 2, none⟩)
      rw [c0] at cr0
      rw [c1] at cr1
      rw [c2] at cr2
      have HP : Hid (∀ W, Pow10 W → Calls Tryd.prog 27 #[.agg #[.int .i64 dk, .int .i64 di, .string ds]] W (StrPost (litDat ⟨dk, di, ds⟩) W)) := fun W hW => rprint_any dk di ds W hIk hW
      have HJZ := Lib.hid hJz
      have HJS := Lib.hid hJs
      clear c0 c1 c2 hIk hJz hJs hd
      generalize litDat ⟨dk, di, ds⟩ = lit at *
      go_upto_region 5 with fail
      have bX : Blk (wr.alloc (.cells #[.int .i64 dk, .int .i64 di, .string ds] 37)) wr.heap.size #[.int .i64 dk, .int .i64 di, .string ds] 37 := Blk.new _ _ _
      have bk2 : Below w.heap.size w (wr.alloc (.cells #[.int .i64 dk, .int .i64 di, .string ds] 37)) := bk.alloc hz _
      have HL2 := Lib.hid (HL.out.below bk2)
      have y0 := bX.cell 0
      have y1 := bX.cell 1
      have y2 := bX.cell 2
      simp only [List.getElem?_toArray, List.getElem?_cons_zero, List.getElem?_cons_succ] at y0 y1 y2
      have hpre : Hid (k = 0 → (40 :: joinL (l.take k)) = [40]) := fun h => by rw [h]; simp [joinL]
      clear bk bX
      generalize wr.alloc (.cells #[.int .i64 dk, .int .i64 di, .string ds] 37) = W2 at *
      generalize joinL (l.take k) = p at *
      by_cases h00 : k = 0
      · have hk0 : ¬ (0 : Int) < k := by omega
        have HZ := Lib.hid h00
        clear h00
        go_wp2_with fail
        refine (HP.out _ HL2.out).mono ?_
        rintro e W4 ⟨rfl, b4⟩
        have bk4 := bk2.trans (b4.mono bk2.size)
        clear y0 y1 y2
        go_wp2_with fail
        go_roundw
        case rel =>
          refine ⟨k + 1, by omega, by go_num, bk4, str_val _ _ ?_⟩
          rw [HJZ.out HZ.out]
          have e := hpre.out HZ.out
          simp only [List.cons.injEq, true_and] at e
          rw [e]
          simp [ByteArray.data_append]
        case measure => simp [intOf]; omega
      · have hk0 : (0 : Int) < k := by omega
        have HZ : Hid (0 < k) := by unfold Hid; omega
        clear h00
        go_wp2_with fail
        refine (HP.out _ HL2.out).mono ?_
        rintro e W4 ⟨rfl, b4⟩
        have bk4 := bk2.trans (b4.mono bk2.size)
        clear y0 y1 y2
        go_wp2_with fail
        go_roundw
        case rel =>
          refine ⟨k + 1, by omega, by go_num, bk4, str_val _ _ ?_⟩
          rw [HJS.out HZ.out]
          simp [ByteArray.data_append]
        case measure => simp [intOf]; omega
    · have ht : l.take k = l := List.take_of_length_le (by omega)
      rw [ht] at hj ⊢
      clear ht
      go_wp2
      go_ret
      exact ⟨str_ret _ _ (by simp [ByteArray.data_append]), bk⟩

set_option maxHeartbeats 4000000 in
set_option maxRecDepth 100000 in
theorem rrowPrint_nil (w : World) : Calls Tryd.prog 14 #[.slice none 0 0] w (StrPost [40, 41] w) := by
  go_enter Tryd.func14, Tryd.ntmps14
  go_wp2_with fail
  go_loopw [3, 4, 5, 8] (fun v _ _ i wr => v = .string ⟨#[40]⟩ ∧ i = .int .i64 0 ∧ wr = w) (fun _ _ _ _ _ => 0)
  case atStart => exact ⟨rfl, rfl, rfl⟩
  case round =>
    obtain ⟨rfl, rfl, rfl⟩ := hrel
    go_wp2
    go_ret
    exact ⟨rfl, Below.refl _ _⟩

theorem rrowPrint_any (v : Value) (l : List Dat) (w : World) (hv : RowV w v l) (hl : l.length ≤ 1048576) (hI : ∀ d ∈ l, InI d) (hL : Pow10 w) :
    Calls Tryd.prog 14 #[v] w (StrPost (40 :: (joinL l ++ [41])) w) := by
  rcases hv with ⟨rfl, rfl⟩ | ⟨b, off, cap, rfl, _, hb, hr⟩
  · exact rrowPrint_nil w
  · exact rrowPrint_some b off cap l w hb hr hl hI hL

end Go.Proofs.YtoikbdgbhgokaaaDoor
