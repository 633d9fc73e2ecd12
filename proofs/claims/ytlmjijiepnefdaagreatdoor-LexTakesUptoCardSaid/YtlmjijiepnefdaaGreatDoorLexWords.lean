/-
  The contract of lex's words: a set of the language's words, of the call's own.
-/
import Derived.Test.YtlmjijiepnefdaaGreatDoorLexOct
import Derived.Maps.OwnSet
import Derived.Lib.LaidTab
import Derived.Lib.AppendIntMem
namespace Go.Proofs.YtlmjijiepnefdaaGreatDoor
open Go.RowKit Go.Maps Go.WideMaps

/-- The table of blanks of package strings. -/
def Spaces (w : World) : Prop := Lib.TabBelow Tryz.prog w.heap.size w "strings.asciiSpace" .u8 Lib.asciiSpaceTab
theorem Spaces.below {w w' : World} (h : Spaces w) (hb : Below w.heap.size w w') : Spaces w' := fun _ h2 => h.on (hb.trans (h2.mono hb.size)) |>.here

/-- The language's words. -/
def wordsL : List (List UInt8) := [
  [65, 76, 76],
  [65, 78, 68],
  [65, 83],
  [65, 83, 67],
  [66, 79, 79, 76],
  [66, 89],
  [66, 89, 84, 69, 83],
  [67, 65, 83, 69],
  [67, 82, 69, 65, 84, 69],
  [68, 69, 67],
  [68, 69, 76, 69, 84, 69],
  [68, 69, 83, 67],
  [68, 73, 83, 84, 73, 78, 67, 84],
  [68, 82, 79, 80],
  [69, 76, 83, 69],
  [69, 78, 68],
  [69, 88, 67, 69, 80, 84],
  [69, 88, 73, 83, 84, 83],
  [70, 65, 76, 83, 69],
  [70, 82, 79, 77],
  [71, 82, 79, 85, 80],
  [72, 65, 86, 73, 78, 71],
  [73, 78],
  [73, 78, 68, 69, 88],
  [73, 78, 78, 69, 82],
  [73, 78, 83, 69, 82, 84],
  [73, 78, 84],
  [73, 78, 84, 69, 82, 83, 69, 67, 84],
  [73, 78, 84, 79],
  [73, 83],
  [74, 79, 73, 78],
  [76, 65, 84, 69, 82, 65, 76],
  [76, 69, 70, 84],
  [76, 73, 77, 73, 84],
  [78, 79, 84],
  [78, 85, 76, 76],
  [79, 78],
  [79, 82],
  [79, 82, 68, 69, 82],
  [83, 69, 76, 69, 67, 84],
  [83, 85, 66, 83, 67, 82, 73, 66, 69],
  [84, 65, 66, 76, 69],
  [84, 69, 88, 84],
  [84, 72, 69, 78],
  [84, 82, 85, 69],
  [85, 78, 73, 79, 78],
  [86, 65, 76, 85, 69, 83],
  [86, 73, 69, 87],
  [87, 72, 69, 78],
  [87, 72, 69, 82, 69]]
def wordT : ByteArray := ⟨#[65, 76, 76, 32, 65, 78, 68, 32, 65, 83, 32, 65, 83, 67, 32, 66, 79, 79, 76, 32, 66, 89, 32, 66, 89, 84, 69, 83, 32, 67, 65, 83, 69, 32, 67, 82, 69, 65, 84, 69, 32, 68, 69, 67, 32, 68, 69, 76, 69, 84, 69, 32, 68, 69, 83, 67, 32, 68, 73, 83, 84, 73, 78, 67, 84, 32, 68, 82, 79, 80, 32, 69, 76, 83, 69, 32, 69, 78, 68, 32, 69, 88, 67, 69, 80, 84, 32, 69, 88, 73, 83, 84, 83, 32, 70, 65, 76, 83, 69, 32, 70, 82, 79, 77, 32, 71, 82, 79, 85, 80, 32, 72, 65, 86, 73, 78, 71, 32, 73, 78, 32, 73, 78, 68, 69, 88, 32, 73, 78, 78, 69, 82, 32, 73, 78, 83, 69, 82, 84, 32, 73, 78, 84, 32, 73, 78, 84, 69, 82, 83, 69, 67, 84, 32, 73, 78, 84, 79, 32, 73, 83, 32, 74, 79, 73, 78, 32, 76, 65, 84, 69, 82, 65, 76, 32, 76, 69, 70, 84, 32, 76, 73, 77, 73, 84, 32, 78, 79, 84, 32, 78, 85, 76, 76, 32, 79, 78, 32, 79, 82, 32, 79, 82, 68, 69, 82, 32, 83, 69, 76, 69, 67, 84, 32, 83, 85, 66, 83, 67, 82, 73, 66, 69, 32, 84, 65, 66, 76, 69, 32, 84, 69, 88, 84, 32, 84, 72, 69, 78, 32, 84, 82, 85, 69, 32, 85, 78, 73, 79, 78, 32, 86, 65, 76, 85, 69, 83, 32, 86, 73, 69, 87, 32, 87, 72, 69, 78, 32, 87, 72, 69, 82, 69]⟩
theorem wordT_fields : Lib.fields wordT.data.toList = wordsL := by decide +kernel
theorem wordT_ascii : ∀ b ∈ wordT.data.toList, b.toNat < 128 := by decide +kernel
def wordS : List ByteArray := wordsL.map fun l => ⟨l.toArray⟩
theorem wordS_len : wordS.length = 50 := by decide +kernel
theorem wordS_small : ∀ s ∈ wordS, s.size ≤ 100 := by decide +kernel

def wkeyAt (k : Nat) : Lit := .string (wordS.getD k ByteArray.empty).data.toList
def wkeys (k : Nat) : List Lit := (wordS.take k).map fun s => .string s.data.toList
def wset {H : Type} (k : Nat) : DataW H := setOf (.agg []) (wkeys k)
theorem wkeys_succ (k : Nat) (hk : k < wordS.length) : wkeys (k + 1) = wkeys k ++ [wkeyAt k] := by
  unfold wkeys wkeyAt
  rw [List.take_add_one, List.map_append]
  simp [List.getD, List.getElem?_eq_getElem hk]
theorem wset_succ {H : Type} (k : Nat) (hk : k < wordS.length) : wset (H := H) (k + 1) = (wset k).put (wkeyAt k) (.agg []) := by
  unfold wset
  rw [wkeys_succ k hk, setOf_snoc]
theorem wset_zero {H : Type} : wset (H := H) 0 = .map [] := by simp [wset, wkeys, setOf]
theorem wlaw : Keyed Tryz.prog 9 := string_keyed Tryz.underlying9
theorem wkey_ok (k : Nat) : keyOf Tryz.prog 9 (.string (wordS.getD k ByteArray.empty)) = some (wkeyAt k) := by
  refine keyOf_string_mk Tryz.underlying9 ?_
  by_cases hk : k < wordS.length
  · rw [List.getD, List.getElem?_eq_getElem hk]
    exact Nat.le_trans (wordS_small _ (List.getElem_mem hk)) (by decide)
  · rw [List.getD, List.getElem?_eq_none (by omega)]
    exact Nat.zero_le _

theorem fields_any (w : World) (hS : Spaces w) :
    Calls Tryz.prog 29 #[.string ⟨#[65, 76, 76, 32, 65, 78, 68, 32, 65, 83, 32, 65, 83, 67, 32, 66, 79, 79, 76, 32, 66, 89, 32, 66, 89, 84, 69, 83, 32, 67, 65, 83, 69, 32, 67, 82, 69, 65, 84, 69, 32, 68, 69, 67, 32, 68, 69, 76, 69, 84, 69, 32, 68, 69, 83, 67, 32, 68, 73, 83, 84, 73, 78, 67, 84, 32, 68, 82, 79, 80, 32, 69, 76, 83, 69, 32, 69, 78, 68, 32, 69, 88, 67, 69, 80, 84, 32, 69, 88, 73, 83, 84, 83, 32, 70, 65, 76, 83, 69, 32, 70, 82, 79, 77, 32, 71, 82, 79, 85, 80, 32, 72, 65, 86, 73, 78, 71, 32, 73, 78, 32, 73, 78, 68, 69, 88, 32, 73, 78, 78, 69, 82, 32, 73, 78, 83, 69, 82, 84, 32, 73, 78, 84, 32, 73, 78, 84, 69, 82, 83, 69, 67, 84, 32, 73, 78, 84, 79, 32, 73, 83, 32, 74, 79, 73, 78, 32, 76, 65, 84, 69, 82, 65, 76, 32, 76, 69, 70, 84, 32, 76, 73, 77, 73, 84, 32, 78, 79, 84, 32, 78, 85, 76, 76, 32, 79, 78, 32, 79, 82, 32, 79, 82, 68, 69, 82, 32, 83, 69, 76, 69, 67, 84, 32, 83, 85, 66, 83, 67, 82, 73, 66, 69, 32, 84, 65, 66, 76, 69, 32, 84, 69, 88, 84, 32, 84, 72, 69, 78, 32, 84, 82, 85, 69, 32, 85, 78, 73, 79, 78, 32, 86, 65, 76, 85, 69, 83, 32, 86, 73, 69, 87, 32, 87, 72, 69, 78, 32, 87, 72, 69, 82, 69]⟩] w fun e w' => e = .returned (.slice (some ⟨w.heap.size, 0, none⟩) 50 50) ∧ w' = w.alloc (.cells (wordS.map fun s => Value.string s).toArray 9) := by
  have h := Tryz.strings_Fields_laid wordT w (by decide +kernel) (fun j b hb => wordT_ascii b (List.mem_of_getElem? hb)) hS.here
  rw [wordT_fields] at h
  have e : (wordsL.map fun l => Value.string ⟨l.toArray⟩) = wordS.map fun s => Value.string s := by unfold wordS; rw [List.map_map]; rfl
  rw [e] at h
  exact h

/-- A set of the language's words. -/
def KnownAt (w : World) (b : Nat) : Prop := w.ownsMap Tryz.prog 9 unitElem b 50 (wset (H := Unit) 50)

set_option maxHeartbeats 4000000 in
set_option maxRecDepth 100000 in
theorem words_any (w : World) (hS : Spaces w) :
    Calls Tryz.prog 19 #[] w fun e w' => e = .returned (.map (some w.heap.size)) ∧ KnownAt w' w.heap.size ∧ Below w.heap.size w w' := by
  have hmm := @run_makeMap Tryz.prog
  have b0 : Below w.heap.size w (w.alloc (.map #[] 0)) := (Below.refl _ _).alloc (Nat.le_refl _) _
  go_enter Tryz.func19, Tryz.ntmps19
  go_wp2_with fail
  refine (fields_any _ (hS.below b0)).mono ?_
  rintro e w2 ⟨rfl, rfl⟩
  have hB : Blk ((w.alloc (.map #[] 0)).alloc (.cells (wordS.map fun s => Value.string s).toArray 9)) (w.heap.size + 1) (wordS.map fun s => Value.string s).toArray 9 := by
    have h1 : Blk ((w.alloc (.map #[] 0)).alloc (.cells (wordS.map fun s => Value.string s).toArray 9)) (w.alloc (.map #[] 0)).heap.size (wordS.map fun s => Value.string s).toArray 9 := Blk.new _ _ _
    rw [World.size_alloc] at h1
    exact h1
  have hm0 : ((w.alloc (.map #[] 0)).alloc (.cells (wordS.map fun s => Value.string s).toArray 9)).ownsMap Tryz.prog 9 unitElem w.heap.size 0 (wset (H := Unit) 0) := by
    rw [wset_zero]; exact (World.ownsMap_made _ _ _ _).alloc _
  have b1 : Below w.heap.size w ((w.alloc (.map #[] 0)).alloc (.cells (wordS.map fun s => Value.string s).toArray 9)) := b0.alloc b0.size _
  have hs1 : w.heap.size + 2 ≤ ((w.alloc (.map #[] 0)).alloc (.cells (wordS.map fun s => Value.string s).toArray 9)).heap.size := by rw [World.size_alloc, World.size_alloc]; exact Nat.le_refl _
  clear b0 hS
  generalize (w.alloc (.map #[] 0)).alloc (.cells (wordS.map fun s => Value.string s).toArray 9) = w2 at *
  go_wp2_with fail
  go_loopw [7] (fun i wr => ∃ k : Nat, k ≤ 50 ∧ i = .int .i64 k ∧ wr.ownsMap Tryz.prog 9 unitElem w.heap.size k (wset (H := Unit) k) ∧ Blk wr (w.heap.size + 1) (wordS.map fun s => Value.string s).toArray 9 ∧ Below w.heap.size w wr)
    (fun i _ => 50 - (intOf i).toNat)
  case atStart => exact ⟨0, Nat.zero_le _, rfl, hm0, hB, b1⟩
  case round =>
    obtain ⟨k, hk, rfl, hown, hB, hb⟩ := hrel
    by_cases hlt : k < 50
    · have hc := hB.cell k
      rw [List.getElem?_toArray, List.getElem?_map, List.getElem?_eq_getElem (by rw [wordS_len]; exact hlt)] at hc
      have hg : wordS.getD k ByteArray.empty = wordS[k]'(by rw [wordS_len]; exact hlt) := by rw [List.getD, List.getElem?_eq_getElem (by rw [wordS_len]; exact hlt)]; rfl
      have hBl := hB.lt
      have hkey := wkey_ok k
      rw [hg] at hkey
      change wr.cell? ⟨w.heap.size + 1, k, none⟩ = some (.string (wordS[k]'(by rw [wordS_len]; exact hlt))) at hc
      have HK := Lib.hid (wset_succ (H := Unit) k (by rw [wordS_len]; exact hlt))
      clear hg
      generalize wordS[k]'(by rw [wordS_len]; exact hlt) = s at *
      go_wp2_with (first
        | (at_mapUpdate; refine wpList_mapUpdate_own _ rfl _ _ _ 41 rfl 9 50 wlaw Tryz.underlying41 (unitElem (H := Unit)) w.heap.size k _ rfl hown (by unfold maxLen; omega) _ _ _ rfl rfl hkey _ [] unitElem_mk ?_; intro w1 hown1 hgrow1)
        | go_in)
      have hB2 : Blk w1 (w.heap.size + 1) (wordS.map fun s => Value.string s).toArray 9 := by
        unfold Blk at *
        rw [hgrow1.block (w.heap.size + 1) hBl (by simp)]
        exact hB
      exact ⟨⟨k + 1, by omega, by go_num, by rw [HK.out]; exact hown1, hB2, hb.grown hgrow1 hb.size (fun j hj => by cases hj; exact Nat.le_refl _)⟩, by simp [intOf]; omega⟩
    · obtain rfl : k = 50 := by omega
      go_wp2
      go_ret
      exact ⟨rfl, hown, hb⟩

end Go.Proofs.YtlmjijiepnefdaaGreatDoor
