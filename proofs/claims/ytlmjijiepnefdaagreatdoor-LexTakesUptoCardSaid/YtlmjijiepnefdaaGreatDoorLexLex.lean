/-
  Lex, as a function of the text's bytes; and its contract.
-/
import Derived.Test.YtlmjijiepnefdaaGreatDoorLexSize
import Derived.Test.YtlmjijiepnefdaaGreatDoorGen
namespace Go.Proofs.YtlmjijiepnefdaaGreatDoor
open Go.RowKit

/-- The tokens of a text that has no blanks ahead, its place, and how many may come; or the error and its place. -/
def lexS : Nat → Nat → List UInt8 → List (Tok × Nat) × Int × Nat
  | 0, pos, l => if l = [] then ([(Tok.zero, pos)], 0, 0) else ([], 2, pos)
  | f + 1, pos, l =>
    if l = [] then ([(Tok.zero, pos)], 0, 0)
    else if (firstR l).2.2 ≠ 0 then ([], (firstR l).2.2, pos + (firstR l).2.1)
    else
      let n := (firstR l).2.1
      let g := gapN (l.drop n)
      let r := lexS f (pos + n + g) ((l.drop n).drop g)
      (((firstR l).1, pos) :: r.1, r.2)
theorem lexS_nil (f pos : Nat) : lexS f pos [] = ([(Tok.zero, pos)], 0, 0) := by cases f <;> simp [lexS]
theorem lexS_full (pos : Nat) {l : List UInt8} (h : l ≠ []) : lexS 0 pos l = ([], 2, pos) := by rw [lexS, if_neg h]
theorem lexS_bad (f pos : Nat) {l : List UInt8} (h : l ≠ []) (hb : (firstR l).2.2 ≠ 0) : lexS (f + 1) pos l = ([], (firstR l).2.2, pos + (firstR l).2.1) := by
  rw [lexS, if_neg h, if_pos hb]
theorem lexS_go (f pos : Nat) {l : List UInt8} (h : l ≠ []) (hb : (firstR l).2.2 = 0) :
    lexS (f + 1) pos l = (((firstR l).1, pos) :: (lexS f (pos + (firstR l).2.1 + gapN (l.drop (firstR l).2.1)) ((l.drop (firstR l).2.1).drop (gapN (l.drop (firstR l).2.1)))).1,
      (lexS f (pos + (firstR l).2.1 + gapN (l.drop (firstR l).2.1)) ((l.drop (firstR l).2.1).drop (gapN (l.drop (firstR l).2.1)))).2) := by
  rw [lexS, if_neg h, if_neg (by rw [hb]; simp)]

def lexR (l : List UInt8) : List (Tok × Nat) × Int × Nat := lexS 1000 (gapN l) (l.drop (gapN l))

def encT (t : Tok × Nat) : List Value := (cellsT t.1 t.2).toList
theorem encT_len (t : Tok × Nat) : (encT t).length = 6 := rfl

/-- What Lex gives. -/
def LexPost (r : List (Tok × Nat) × Int × Nat) (w : World) (e : Ending) (w' : World) : Prop :=
  (∃ v, e = .returned (.tuple #[v, .int .i64 r.2.1, .int .i64 (r.2.2 : Int)]) ∧ (if r.2.1 = 0 then OwnG encT 6 33 w' w.heap.size v r.1 else v = .slice none 0 0)) ∧ Below w.heap.size w w'

theorem LexV.below {w w' : World} (h : LexV w) (hb : Below w.heap.size w w') : LexV w' := ⟨h.1.below hb, h.2.1.below hb, h.2.2.below hb⟩
theorem Tryz.info33 : (Tryz.prog.info? 33).map (fun i => (i.zero, i.size, i.bytes)) = some (some (.agg (cellsT Tok.zero 0)), 6, 64) := by kernel_rfl

theorem OwnG.slice {w : World} {base : Nat} {v : Value} {l : List (Tok × Nat)} (h : OwnG encT 6 33 w base v l) : ∃ a cap, v = .slice a l.length cap := by
  rcases h.shape with ⟨rfl, rfl⟩ | ⟨g, cap, rfl, _⟩
  · exact ⟨_, _, rfl⟩
  · exact ⟨_, _, rfl⟩
theorem valT_new (w : World) (t : Tok × Nat) (T : TypeId) : ValG encT 6 (w.alloc (.cells (cellsT t.1 t.2) T)) (.slice (some ⟨w.heap.size, 0, none⟩) 1 1) [t] := by
  refine .inr ⟨w.heap.size, 0, 1, rfl, (by decide : 1 ≤ maxLen), by rw [World.size_alloc]; exact Nat.lt_succ_self _, ?_, Nat.le_refl _⟩
  intro i x hi r u hr
  match i, hi with
  | 0, hi =>
    obtain rfl : t = x := by simpa using hi
    have h := (Blk.new w (cellsT t.1 t.2) T).cell r
    rw [show 0 + 0 * 6 + r = r by omega, h, ← hr]
    unfold encT
    rw [Array.getElem?_toList]
  | i + 1, hi => simp at hi
theorem encT_one (t : Tok × Nat) : ∀ u ∈ encT t, u.oneCell' = true := by
  intro u hu
  simp only [encT, cellsT, List.mem_cons, List.not_mem_nil, or_false] at hu
  rcases hu with rfl | rfl | rfl | rfl | rfl | rfl <;> rfl

set_option maxHeartbeats 4000000 in
set_option maxRecDepth 100000 in
theorem lex_any (s : ByteArray) (w : World) (hs : s.size ≤ 4000) (hV : LexV w) :
    Calls Tryz.prog 7 #[.string s] w (LexPost (lexR s.data.toList) w) := by
  have HV := Lib.hid hV
  clear hV
  obtain ⟨i0, hi, hz0, hz1, hz2⟩ := info_parts Tryz.info33
  go_enter Tryz.func7, Tryz.ntmps7
  go_wp2_with fail
  refine (words_any _ HV.out.2.2).mono ?_
  rintro e w1 ⟨rfl, hK, b1⟩
  have hB1 : w.heap.size < w1.heap.size := hK.lt
  go_wp2_with fail
  refine (gap_any _ _ hs).mono ?_
  rintro e w2 ⟨rfl, b2⟩
  have hb := b1.trans (b2.mono b1.size)
  have hK2 := hK.below b2
  have hB2 : w1.heap.size ≤ w2.heap.size := b2.size
  have hg := gapN_le s.data.toList
  rw [size_list] at hg
  clear b1 b2 hK
  have HR : Hid (lexR s.data.toList = lexS 1000 (gapN s.data.toList) (s.data.toList.drop (gapN s.data.toList))) := rfl
  generalize hG : gapN s.data.toList = g at *
  clear hG
  have hN : OwnG encT 6 33 w2 w1.heap.size (.slice none 0 0) [] := OwnG.nil 33 w2 w1.heap.size
  go_wp2_with fail
  go_loopw [6, 7] (fun v p wr => ∃ (A : List (Tok × Nat)) (pos : Nat), p = .int .i64 pos ∧ pos ≤ s.size ∧ A.length ≤ 1000 ∧ OwnG encT 6 33 wr w1.heap.size v A ∧ KnownAt wr w.heap.size ∧ Below w.heap.size w wr ∧ w1.heap.size ≤ wr.heap.size ∧
      Hid (lexR s.data.toList = (A ++ (lexS (1000 - A.length) pos (s.data.toList.drop pos)).1, (lexS (1000 - A.length) pos (s.data.toList.drop pos)).2))) (fun _ p _ => s.size - (intOf p).toNat)
  case atStart => exact ⟨[], g, rfl, hg, Nat.zero_le _, hN, hK2, hb, hB2, HR.out⟩
  case round =>
    obtain ⟨A, pos, rfl, hp, hA, hO, hK, hb, hB, HL⟩ := hrel
    obtain ⟨va, cap, rfl⟩ := hO.slice
    have HO := Lib.hid hO
    clear hO
    by_cases hlt : pos < s.size
    · have hne : s.data.toList.drop pos ≠ [] := by
        intro h
        have := congrArg List.length h
        rw [List.length_drop, size_list] at this
        simp at this; omega
      by_cases hk : A.length = 1000
      · rw [hk, lexS_full pos hne] at HL
        have hki : (A.length : Int) = 1000 := by omega
        clear hk
        go_wp2_with fail
        rw [HL.out]
        refine bodyPost_ret (v := .tuple #[.slice none 0 0, .int .i64 2, .int .i64 (pos : Int)]) (by simp [results, Tryz.results7, go_sem]) rfl ⟨⟨_, rfl, by simp⟩, hb⟩
      · have hki : ¬ (A.length : Int) = 1000 := by omega
        go_wp2_with fail
        have hxs : (s.extract pos s.size).size = s.size - pos := ext_size s pos
        refine (first_any _ _ _ (by omega) (by omega) hK (HV.out.below hb).1 (HV.out.below hb).2.1).mono ?_
        rintro e w3 ⟨rfl, b3⟩
        rw [Lib.extract_to_end]
        have hSz := first_size _ hne
        have HSz := Lib.hid hSz
        have hsz0 : (firstR (s.data.toList.drop pos)).2.1 ≤ 4000 := by have := hSz.1; rw [List.length_drop, size_list] at this; omega
        have hLG := lexS_go (1000 - (A.length + 1)) pos hne
        have hLB := lexS_bad (1000 - (A.length + 1)) pos hne
        rw [show 1000 - (A.length + 1) + 1 = 1000 - A.length by omega] at hLG hLB
        have HLG := Lib.hid hLG
        have HLB := Lib.hid hLB
        clear hSz hLG hLB hxs
        generalize firstR (s.data.toList.drop pos) = r at *
        unfold cellsT
        have hK3 := hK.below b3
        have HO3 := Lib.hid (HO.out.below b3)
        have hb3 := hb.trans (b3.mono hb.size)
        have hB3 : w1.heap.size ≤ w3.heap.size := Nat.le_trans hB b3.size
        clear HO hK hb hB b3
        by_cases hr : r.2.2 = 0
        · have hLG := HLG.out hr
          have hsz1 := HSz.out.2 hr
          rw [hLG] at HL
          obtain ⟨rt, rn, re⟩ := r
          obtain rfl : re = 0 := hr
          have hrn : rn ≤ s.size - pos := by have := HSz.out.1; rw [List.length_drop, size_list] at this; exact this
          simp only [] at hsz0 hsz1 HL
          clear HLG HLB hLG HSz
          rw [List.drop_drop, List.drop_drop] at HL
          have HO4 := Lib.hid ((HO3.out.alloc (.cells (cellsT rt pos) 33)).alloc (.cells (cellsT rt pos) 33))
          have HW : Hid (ValG encT 6 ((w3.alloc (.cells (cellsT rt pos) 33)).alloc (.cells (cellsT rt pos) 33)) (.slice (some ⟨w3.heap.size + 1, 0, none⟩) 1 1) [(rt, pos)]) := by
            have h := valT_new (w3.alloc (.cells (cellsT rt pos) 33)) (rt, pos) 33
            rw [World.size_alloc] at h
            exact h
          have hb4 := (hb3.alloc hb3.size (.cells (cellsT rt pos) 33)).alloc (hb3.alloc hb3.size (.cells (cellsT rt pos) 33)).size (.cells (cellsT rt pos) 33)
          have hK4 : KnownAt ((w3.alloc (.cells (cellsT rt pos) 33)).alloc (.cells (cellsT rt pos) 33)) w.heap.size := (World.ownsMap.alloc (World.ownsMap.alloc hK3 _) _)
          have HBS := Lib.hid (show w1.heap.size ≤ ((w3.alloc (.cells (cellsT rt pos) 33)).alloc (.cells (cellsT rt pos) 33)).heap.size by rw [World.size_alloc, World.size_alloc]; omega)
          have HAl := Lib.hid (show A.length + [(rt, pos)].length ≤ 1001 by simp; omega)
          have HA2 := Lib.hid (show 1001 ≤ maxLen by decide)
          clear HO3 hb3 hK3
          go_wp2_with (first
            | (at_builtin; refine wpList_append_g encT_len (by decide) 22 33 i0 _ 64 Tryz.underlying22 hi hz0 hz1 hz2 rfl _ rfl _ _ rfl w1.heap.size _ _ A [(rt, pos)] rfl rfl HO4.out HW.out (by intro x hx; exact encT_one x) (Nat.le_trans HAl.out HA2.out) (by have := HAl.out; omega) HBS.out ?_; intro v' w' ho hgw)
            | fail)
          have hbg := OwnG.grown HO4.out HBS.out hgw
          have hb5 := hb4.trans (hbg.mono (Nat.le_of_lt hB1))
          have hB5 : w1.heap.size ≤ w'.heap.size := Nat.le_trans HBS.out hgw.size
          have hK5 : KnownAt w' w.heap.size := by
            obtain ⟨es, clock, h1, r⟩ := hK4
            exact ⟨es, clock, by rw [hbg.block _ hB1]; exact h1, r⟩
          have HO5 := Lib.hid ho
          clear hgw hbg HW HO4 hK4 hb4 ho HBS HAl HA2
          have hxs2 : (s.extract (pos + rn) s.size).size = s.size - (pos + rn) := ext_size s (pos + rn)
          have hgl := gapN_le (s.extract (pos + rn) s.size).data.toList
          rw [size_list, hxs2, Lib.extract_to_end] at hgl
          refine (gap_any _ _ (by omega)).mono ?_
          rintro e w6 ⟨rfl, b6⟩
          rw [Lib.extract_to_end]
          generalize gapN (s.data.toList.drop (pos + rn)) = g2 at *
          have HO6 := Lib.hid (HO5.out.below b6)
          have hK6 := hK5.below b6
          have hb6 := hb5.trans (b6.mono hb5.size)
          have hB6 : w1.heap.size ≤ w6.heap.size := Nat.le_trans hB5 b6.size
          clear HO5 hK5 hb5 hB5 b6 hxs2
          go_wp2_with fail
          go_roundw
          case rel =>
            refine ⟨A ++ [(rt, pos)], pos + rn + g2, by go_num, by omega, by simp; omega, HO6.out, hK6, hb6, hB6, ?_⟩
            unfold Hid
            rw [HL.out, List.length_append, List.append_assoc]
            rfl
          case measure => simp [intOf]; omega
        · have hrb : (r.2.2 == 0) = false := by simpa using hr
          have hrb2 : (r.2.2 != 0) = true := by simpa using hr
          have hLB := HLB.out hr
          rw [hLB] at HL
          have hszz := hsz0
          have hr0 := Lib.hid hr
          clear hr HLB hLB HLG
          go_wp2_with fail
          rw [HL.out]
          refine bodyPost_ret (v := .tuple #[.slice none 0 0, .int .i64 r.2.2, .int .i64 ((pos + r.2.1 : Nat) : Int)]) (by simp [results, Tryz.results7, go_sem]) rfl ⟨⟨_, rfl, by rw [if_neg hr0.out]⟩, hb3.alloc hb3.size _⟩
    · have : pos = s.size := by omega
      subst this
      have hd : s.data.toList.drop s.size = [] := List.drop_eq_nil_of_le (by rw [size_list]; exact Nat.le_refl _)
      rw [hd, lexS_nil] at HL
      clear hd
      have HO2 := Lib.hid (HO.out.alloc (.cells (cellsT Tok.zero s.size) 33))
      have HW := Lib.hid (valT_new wr (Tok.zero, s.size) 33)
      have hb2 := hb.alloc hb.size (.cells (cellsT Tok.zero s.size) 33)
      have hbs : w1.heap.size ≤ (wr.alloc (.cells (cellsT Tok.zero s.size) 33)).heap.size := by rw [World.size_alloc]; omega
      have HBS := Lib.hid hbs
      have HAl := Lib.hid (show A.length + [(Tok.zero, s.size)].length ≤ 1001 by simp; omega)
      have HA2 := Lib.hid (show 1001 ≤ maxLen by decide)
      clear HO hb hbs
      go_wp2_with (at_builtin; refine wpList_append_g encT_len (by decide) 22 33 i0 _ 64 Tryz.underlying22 hi hz0 hz1 hz2 rfl _ rfl _ _ rfl w1.heap.size _ _ A [(Tok.zero, s.size)] rfl rfl HO2.out HW.out (by intro x hx; exact encT_one x) (Nat.le_trans HAl.out HA2.out) (by have := HAl.out; omega) HBS.out ?_; intro v' w' ho hgw)
      rw [HL.out]
      refine bodyPost_ret (v := .tuple #[v', .int .i64 0, .int .i64 0]) (by simp [results, Tryz.results7, go_sem]) rfl ⟨⟨_, rfl, by rw [if_pos rfl]; exact ho.more (Nat.le_of_lt hB1)⟩, hb2.trans ((OwnG.grown HO2.out HBS.out hgw).mono (Nat.le_of_lt hB1))⟩

end Go.Proofs.YtlmjijiepnefdaaGreatDoor
