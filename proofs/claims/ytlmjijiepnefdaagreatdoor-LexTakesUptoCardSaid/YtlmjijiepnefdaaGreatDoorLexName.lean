/-
  The contract of lex's name.
-/
import Derived.Test.YtlmjijiepnefdaaGreatDoorLexWords
namespace Go.Proofs.YtlmjijiepnefdaaGreatDoor
open Go.RowKit Go.Maps Go.WideMaps

theorem KnownAt.lt {w : World} {b : Nat} (h : KnownAt w b) : b < w.heap.size := World.ownsMap.lt h
theorem KnownAt.below {w w' : World} {b : Nat} (h : KnownAt w b) (hb : Below w.heap.size w w') : KnownAt w' b := by
  have hl := h.lt
  obtain ⟨es, clock, h1, r⟩ := h
  exact ⟨es, clock, by rw [hb.block b hl]; exact h1, r⟩

def isWord (u : List UInt8) : Bool := decide (u ∈ wordsL)
theorem wkeys_all : wkeys 50 = wordsL.map fun l => Lit.string l := by
  unfold wkeys wordS
  rw [List.take_of_length_le (by rw [List.length_map]; decide), List.map_map]
  rfl
theorem has_wset (u : List UInt8) : Maps.has (wset (H := Unit) 50) (.string u) = isWord u := by
  unfold wset isWord
  rw [wkeys_all, has_setOf _ _ _ (fun y hy => by obtain ⟨_, _, rfl⟩ := List.mem_map.1 hy; trivial), List.any_map]
  generalize wordsL = L
  induction L with
  | nil => rfl
  | cons a L ih =>
    rw [List.any_cons, ih]
    have e0 : (Lit.string a).sameKey (Lit.string u) = decide (a = u) := by
      by_cases h : a = u
      · subst h; simp [Lit.sameKey]
      · simp [Lit.sameKey, h]
    rw [Function.comp, e0]
    by_cases h : a = u
    · subst h; simp
    · have h2 : ¬ u = a := fun e => h e.symm
      simp [h, h2]

theorem name_ascii : ∀ b : UInt8, nameB b = true → b.toNat < 128 := u8_all _ (by decide +kernel)

def nameR (l : List UInt8) : Tok × Nat × Int :=
  if 20 < runN nameB l then (Tok.zero, 0, 2)
  else if isWord (Lib.toUpperA (l.take (runN nameB l))) then (⟨2, Lib.toUpperA (l.take (runN nameB l)), 0, 0, []⟩, runN nameB l, 0)
  else (⟨1, Lib.toLowerA (l.take (runN nameB l)), 0, 0, []⟩, runN nameB l, 0)

set_option maxHeartbeats 4000000 in
set_option maxRecDepth 100000 in
theorem lexName_any (s : ByteArray) (B : Nat) (w : World) (_hs : s.size ≤ 4000) (hK : KnownAt w B) :
    Calls Tryz.prog 36 #[.string s, .map (some B)] w (TokPost (nameR s.data.toList) w) := by
  have b0 : Below w.heap.size w (w.alloc (.cells (cellsT Tok.zero 0) 33)) := (Below.refl _ _).alloc (Nat.le_refl _) _
  have hn := runN_le nameB s.data.toList
  rw [size_list] at hn
  have HA := Lib.hid (run_all nameB s.data.toList)
  have HK := Lib.hid hK
  clear hK
  go_enter Tryz.func36, Tryz.ntmps36
  go_wp2_with fail
  refine (run_name _ _).mono ?_
  rintro e w1 ⟨rfl, b1⟩
  have bX := Blk.below (b := w.heap.size) (cs := cellsT Tok.zero 0) (t := 33) (Blk.at rfl) b1
  have hb := b0.trans (b1.mono b0.size)
  clear b0 b1
  have HR : Hid (nameR s.data.toList = if 20 < runN nameB s.data.toList then (Tok.zero, 0, 2)
    else if isWord (Lib.toUpperA (s.data.toList.take (runN nameB s.data.toList))) then (⟨2, Lib.toUpperA (s.data.toList.take (runN nameB s.data.toList)), 0, 0, []⟩, runN nameB s.data.toList, 0)
    else (⟨1, Lib.toLowerA (s.data.toList.take (runN nameB s.data.toList)), 0, 0, []⟩, runN nameB s.data.toList, 0)) := rfl
  generalize runN nameB s.data.toList = n at *
  by_cases h20 : 20 < n
  · have HRR : Hid (nameR s.data.toList = (Tok.zero, 0, 2)) := by unfold Hid; rw [HR.out, if_pos h20]
    have hni : 20 < (n : Int) := by omega
    clear HR
    have y0 := bX.cell 0
    have y1 := bX.cell 1
    have y2 := bX.cell 2
    have y3 := bX.cell 3
    have y4 := bX.cell 4
    have y5 := bX.cell 5
    simp only [cellsT, Tok.zero, List.getElem?_toArray, List.getElem?_cons_zero, List.getElem?_cons_succ] at y0 y1 y2 y3 y4 y5
    have f0 := bX.frozen 0
    have f1 := bX.frozen 1
    have f2 := bX.frozen 2
    have f3 := bX.frozen 3
    have f4 := bX.frozen 4
    have f5 := bX.frozen 5
    clear bX
    go_wp2_with fail
    rw [HRR.out]
    refine bodyPost_ret ?_ rfl ⟨rfl, ?_⟩
    · simp [results, Tryz.results36, go_sem, cellsT, Tok.zero, y0, y1, y2, y3, y4, y5]
    · exact (((((hb.setCell (Nat.le_refl _) _).setCell (Nat.le_refl _) _).setCell (Nat.le_refl _) _).setCell (Nat.le_refl _) _).setCell (Nat.le_refl _) _).setCell (Nat.le_refl _) _
  · have hni : (n : Int) ≤ 20 := by omega
    have hX : (s.extract 0 n).data.toList = s.data.toList.take n := by rw [Lib.extract_data, List.drop_zero, Nat.sub_zero]
    have hXs : (s.extract 0 n).size ≤ 20 := by
      have := congrArg List.length hX
      rw [size_list, List.length_take, size_list] at this; omega
    have hXa : ∀ (j : Nat) (b : UInt8), (s.extract 0 n).data.toList[j]? = some b → b.toNat < 128 := by
      intro j b h
      rw [hX] at h
      exact name_ascii b (HA.out b (List.mem_of_getElem? h))
    go_wp2_with fail
    refine (Tryz.strings_ToUpper_ascii (s.extract 0 n) _ (by omega) hXa).mono ?_
    rintro e w2 ⟨rfl, b2⟩
    rw [hX]
    replace bX := bX.below b2
    replace hb := hb.trans (b2.mono hb.size)
    clear b2
    have hul : (Lib.toUpperA (s.data.toList.take n)).length ≤ 20 := by unfold Lib.toUpperA; rw [List.length_map, List.length_take]; omega
    have hXX := Lib.hid hX
    have hXAA := Lib.hid hXa
    clear hX hXa
    have HX : Hid (nameR s.data.toList = if isWord (Lib.toUpperA (s.data.toList.take n)) then (⟨2, Lib.toUpperA (s.data.toList.take n), 0, 0, []⟩, n, 0)
      else (⟨1, Lib.toLowerA (s.data.toList.take n), 0, 0, []⟩, n, 0)) := by unfold Hid; rw [HR.out, if_neg h20]
    clear HR
    generalize Lib.toUpperA (s.data.toList.take n) = u at *
    have hus : (⟨u.toArray⟩ : ByteArray).size = u.length := by simp [ByteArray.size]
    have hkey : keyOf Tryz.prog 9 (.string ⟨u.toArray⟩) = some (.string u) := by
      have := keyOf_string_mk (P := Tryz.prog) Tryz.underlying9 (s := ⟨u.toArray⟩) (by rw [hus]; exact Nat.le_trans hul (by decide))
      simpa using this
    have hown : KnownAt w2 B := HK.out.below hb
    have hhas := has_wset u
    unfold KnownAt at hown
    have hclone : (⟨u.toArray⟩ : ByteArray).size ≤ 4000 := by omega
    clear hus hul
    have zero39 : (zeroValue 50).run Tryz.prog w2 = .ok (.agg #[]) w2 := by kernel_rfl
    go_wp2_with (first
      | (at_lookup; refine wpList_lookup_own_unit _ rfl _ _ 41 rfl 9 50 wlaw Tryz.underlying41 zero39 B 50 _ rfl hown _ _ rfl hkey ?_; rw [hhas])
      | fail)
    · have hw : isWord u = true := by simpa using ‹_›
      have HRR : Hid (nameR s.data.toList = (⟨2, u, 0, 0, []⟩, n, 0)) := by unfold Hid; rw [HX.out, hw]; rfl
      clear HX
      replace bX := bX.alloc (.cells #[] 50)
      replace hb := hb.alloc hb.size (.cells #[] 50)
      refine (clone_any _ _ hclone).mono ?_
      rintro e w3 ⟨rfl, b3⟩
      replace bX := bX.below b3
      replace hb := hb.trans (b3.mono hb.size)
      clear b3
      have y0 := bX.cell 0
      have y1 := bX.cell 1
      have y2 := bX.cell 2
      have y3 := bX.cell 3
      have y4 := bX.cell 4
      have y5 := bX.cell 5
      simp only [cellsT, Tok.zero, List.getElem?_toArray, List.getElem?_cons_zero, List.getElem?_cons_succ] at y0 y1 y2 y3 y4 y5
      have f0 := bX.frozen 0
      have f1 := bX.frozen 1
      have f2 := bX.frozen 2
      have f3 := bX.frozen 3
      have f4 := bX.frozen 4
      have f5 := bX.frozen 5
      clear bX
      go_wp2_with fail
      rw [HRR.out]
      refine bodyPost_ret ?_ rfl ⟨rfl, ?_⟩
      · simp [results, Tryz.results36, go_sem, cellsT, y0, y1, y2, y3, y4, y5]
      · exact (((((hb.setCell (Nat.le_refl _) _).setCell (Nat.le_refl _) _).setCell (Nat.le_refl _) _).setCell (Nat.le_refl _) _).setCell (Nat.le_refl _) _).setCell (Nat.le_refl _) _
    · have hw : isWord u = false := by simpa using ‹_›
      have HRR : Hid (nameR s.data.toList = (⟨1, Lib.toLowerA (s.data.toList.take n), 0, 0, []⟩, n, 0)) := by unfold Hid; rw [HX.out, hw]; rfl
      clear HX
      replace bX := bX.alloc (.cells #[] 50)
      replace hb := hb.alloc hb.size (.cells #[] 50)
      refine (Tryz.strings_ToLower_ascii (s.extract 0 n) _ (by omega) hXAA.out).mono ?_
      rintro e w3 ⟨rfl, b3⟩
      rw [hXX.out]
      replace bX := bX.below b3
      replace hb := hb.trans (b3.mono hb.size)
      clear b3
      have hll : (⟨(Lib.toLowerA (s.data.toList.take n)).toArray⟩ : ByteArray).size ≤ 4000 := by
        have : (⟨(Lib.toLowerA (s.data.toList.take n)).toArray⟩ : ByteArray).size = (Lib.toLowerA (s.data.toList.take n)).length := by simp [ByteArray.size]
        rw [this]; unfold Lib.toLowerA; rw [List.length_map, List.length_take]; omega
      generalize Lib.toLowerA (s.data.toList.take n) = v at *
      go_wp2_with fail
      refine (clone_any _ _ hll).mono ?_
      rintro e w4 ⟨rfl, b4⟩
      replace bX := bX.below b4
      replace hb := hb.trans (b4.mono hb.size)
      clear b4 hll
      have y0 := bX.cell 0
      have y1 := bX.cell 1
      have y2 := bX.cell 2
      have y3 := bX.cell 3
      have y4 := bX.cell 4
      have y5 := bX.cell 5
      simp only [cellsT, Tok.zero, List.getElem?_toArray, List.getElem?_cons_zero, List.getElem?_cons_succ] at y0 y1 y2 y3 y4 y5
      have f0 := bX.frozen 0
      have f1 := bX.frozen 1
      have f2 := bX.frozen 2
      have f3 := bX.frozen 3
      have f4 := bX.frozen 4
      have f5 := bX.frozen 5
      clear bX
      go_wp2_with fail
      rw [HRR.out]
      refine bodyPost_ret ?_ rfl ⟨rfl, ?_⟩
      · simp [results, Tryz.results36, go_sem, cellsT, y0, y1, y2, y3, y4, y5]
      · exact (((((hb.setCell (Nat.le_refl _) _).setCell (Nat.le_refl _) _).setCell (Nat.le_refl _) _).setCell (Nat.le_refl _) _).setCell (Nat.le_refl _) _).setCell (Nat.le_refl _) _

end Go.Proofs.YtlmjijiepnefdaaGreatDoor
