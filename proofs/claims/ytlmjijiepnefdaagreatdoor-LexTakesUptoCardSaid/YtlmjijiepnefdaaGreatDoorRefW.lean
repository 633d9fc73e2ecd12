/-
  The contracts of the reference's Lower and Upper.
-/
import Derived.Test.YtlmjijiepnefdaaGreatDoorLexAgP
import Derived.Test.YtlmjijiepnefdaaGreatDoorRefPrint
namespace Go.Proofs.YtlmjijiepnefdaaGreatDoor
open Go.RowKit

/-- A row of bytes, the first k of them turned. -/
def LowRow (f : UInt8 → UInt8) (l : List UInt8) (w : World) (b k : Nat) : Prop :=
  ∃ cs : Array Value, w.heap[b]? = some (.cells cs 5 (cs.size, cs.size + 1)) ∧ l.length ≤ cs.size ∧ ∀ j, j < l.length → cs[j]? = some (.int .u8 ((if j < k then f (l.getD j 0) else l.getD j 0).toNat : Int))
theorem LowRow.cell {f : UInt8 → UInt8} {l : List UInt8} {w : World} {b k : Nat} (h : LowRow f l w b k) (j : Nat) (hj : j < l.length) : w.cell? ⟨b, j, none⟩ = some (.int .u8 ((if j < k then f (l.getD j 0) else l.getD j 0).toNat : Int)) := by
  obtain ⟨cs, h1, _, h3⟩ := h
  rw [cell_of_row w b j cs 5 _ h1]; exact h3 j hj
theorem LowRow.frozen {f : UInt8 → UInt8} {l : List UInt8} {w : World} {b k : Nat} (h : LowRow f l w b k) (j : Nat) (hj : j < l.length) : w.frozen? ⟨b, j, none⟩ = false := by
  obtain ⟨cs, h1, h2, _⟩ := h
  simp [World.frozen?, h1]; omega
theorem LowRow.same {f : UInt8 → UInt8} {l : List UInt8} {w : World} {b k : Nat} (h : LowRow f l w b k) (hf : f (l.getD k 0) = l.getD k 0) : LowRow f l w b (k + 1) := by
  obtain ⟨cs, h1, h2, h3⟩ := h
  refine ⟨cs, h1, h2, fun j hj => ?_⟩
  rw [h3 j hj]
  by_cases hjk : j < k
  · rw [if_pos hjk, if_pos (by omega)]
  · by_cases he : j = k
    · subst he; rw [if_neg hjk, if_pos (by omega), hf]
    · rw [if_neg hjk, if_neg (by omega)]
theorem LowRow.set {f : UInt8 → UInt8} {l : List UInt8} {w : World} {b k : Nat} (h : LowRow f l w b k) (hk : k < l.length) : LowRow f l (w.setCell ⟨b, k, none⟩ (.int .u8 ((f (l.getD k 0)).toNat : Int))) b (k + 1) := by
  obtain ⟨cs, h1, h2, h3⟩ := h
  refine ⟨cs.setIfInBounds k (.int .u8 ((f (l.getD k 0)).toNat : Int)), ?_, by rw [Array.size_setIfInBounds]; exact h2, fun j hj => ?_⟩
  · rw [Go.Joins.block_setCell h1, Array.size_setIfInBounds]
  · rw [Array.getElem?_setIfInBounds]
    by_cases he : k = j
    · subst he
      rw [if_pos rfl, if_pos (by omega), if_pos (by omega)]
    · rw [if_neg he, h3 j hj]
      by_cases hjk : j < k
      · rw [if_pos hjk, if_pos (by omega)]
      · rw [if_neg hjk, if_neg (by omega)]
theorem lowRow_new (f : UInt8 → UInt8) (w : World) (s : ByteArray) : LowRow f s.data.toList (Lib.bytesWorld w 5 s) w.heap.size 0 := by
  refine ⟨Lib.bytesCells w 5 s, Lib.bytesWorld_at_new w 5 s, ?_, fun j hj => ?_⟩
  · unfold Lib.bytesCells; rw [Array.size_append, Array.size_map, Array.length_toList]; omega
  · rw [if_neg (Nat.not_lt_zero _), ← cell_of_row _ _ j _ 5 _ (Lib.bytesWorld_at_new w 5 s)]
    exact Lib.bytesWorld_cell w 5 s j (by rw [Array.length_toList] at hj; exact hj)

theorem lowerB_in : ∀ x : UInt8, 65 ≤ x.toNat ∧ x.toNat ≤ 90 → (Lib.lowerB x).toNat = x.toNat + 32 := u8_all _ (by decide +kernel)
theorem lowerB_out : ∀ x : UInt8, ¬ (65 ≤ x.toNat ∧ x.toNat ≤ 90) → Lib.lowerB x = x := u8_all _ (by decide +kernel)
theorem upperB_in : ∀ x : UInt8, 97 ≤ x.toNat ∧ x.toNat ≤ 122 → (Lib.upperB x).toNat + 32 = x.toNat := u8_all _ (by decide +kernel)
theorem upperB_out : ∀ x : UInt8, ¬ (97 ≤ x.toNat ∧ x.toNat ≤ 122) → Lib.upperB x = x := u8_all _ (by decide +kernel)

set_option maxHeartbeats 4000000 in
set_option maxRecDepth 100000 in
theorem refLower_any (s : ByteArray) (w : World) (hs : s.size ≤ 9223372036854775807) : Calls Tryz.prog 18 #[.string s] w (StrPost (Lib.toLowerA s.data.toList) w) := by
  have hcv := Lib.run_convert_string_bytes (P := Tryz.prog) w 9 52 5 s (u := .string) Tryz.underlying9 Tryz.underlying52 Tryz.underlying5
  have hR0 := lowRow_new Lib.lowerB w s
  have hb0 := Go.Joins.below_bytesWorld w.heap.size w 5 s (Nat.le_refl _)
  have hl : s.data.toList.length = s.size := size_list s
  generalize grownCap w s.size 0 5 = gc at *
  generalize Lib.bytesWorld w 5 s = W1 at *
  generalize s.data.toList = l at *
  have HL := Lib.hid hl
  clear hl
  go_enter Tryz.func18, Tryz.ntmps18
  go_wp2_with fail
  go_loopw [9] (fun i wr => ∃ k : Nat, i = .int .i64 k ∧ k ≤ s.size ∧ LowRow Lib.lowerB l wr w.heap.size k ∧ Below w.heap.size w wr) (fun i _ => s.size - (intOf i).toNat)
  case atStart => exact ⟨0, rfl, Nat.zero_le _, hR0, hb0⟩
  case round =>
    obtain ⟨k, rfl, hk, hR, hb⟩ := hrel
    clear hcv hR0 hb0
    by_cases hlt : k < s.size
    · have c0 := hR.cell k (by have := HL.out; omega)
      have f0 := hR.frozen k (by have := HL.out; omega)
      rw [if_neg (Nat.lt_irrefl _)] at c0
      obtain ⟨x, hx⟩ : ∃ x : UInt8, l.getD k 0 = x := ⟨_, rfl⟩
      obtain ⟨c, hc⟩ : ∃ c : Nat, x.toNat = c := ⟨_, rfl⟩
      have hc1 : c < 256 := hc ▸ UInt8.toNat_lt _
      rw [hx, hc] at c0
      have HR := Lib.hid hR
      have HX := Lib.hid hx
      have HC := Lib.hid hc
      clear hx hc hR
      by_cases h1 : 65 ≤ c ∧ c ≤ 90
      · obtain ⟨q1, q2⟩ := h1
        have hv : ((Lib.lowerB x).toNat : Int) = (c : Int) + 32 := by
          have := lowerB_in x (by rw [HC.out]; exact ⟨q1, q2⟩)
          rw [HC.out] at this; omega
        have hS := HR.out.set (by have := HL.out; omega : k < l.length)
        rw [HX.out, hv] at hS
        have HS := Lib.hid hS
        clear hS hv
        go_wp2_with fail
        go_roundw
        case rel => exact ⟨k + 1, by go_num, by omega, HS.out, hb.setCell (Nat.le_refl _) _⟩
        case measure => simp [intOf]; omega
      · have hS := HR.out.same (by rw [HX.out]; exact lowerB_out x (by rw [HC.out]; exact h1))
        have HS := Lib.hid hS
        clear hS
        by_cases h2 : c < 65
        · clear h1
          go_wp2_with fail
          go_roundw
          case rel => exact ⟨k + 1, by go_num, by omega, HS.out, hb⟩
          case measure => simp [intOf]; omega
        · have h3 : 90 < c := by omega
          clear h1
          go_wp2_with fail
          go_roundw
          case rel => exact ⟨k + 1, by go_num, by omega, HS.out, hb⟩
          case measure => simp [intOf]; omega
    · obtain rfl : k = s.size := by omega
      have hm : (Lib.toLowerA l).length = s.size := by unfold Lib.toLowerA; rw [List.length_map]; exact HL.out
      have hcb := run_convert_bytes_back (P := Tryz.prog) wr 52 9 5 ⟨w.heap.size, 0, none⟩ gc (Lib.toLowerA l) Tryz.underlying52 Tryz.underlying5 Tryz.underlying9 (fun j hj => by
        rw [hm] at hj
        have hjl : j < l.length := by have := HL.out; omega
        have := hR.cell j hjl
        rw [if_pos hj] at this
        rw [Lib.add_plain, Nat.zero_add, this]
        simp [Lib.toLowerA, List.getD_eq_getElem?_getD, List.getElem?_eq_getElem hjl])
      rw [hm] at hcb
      clear hR hm
      go_wp2_with fail
      go_ret
      exact ⟨rfl, hb⟩

set_option maxHeartbeats 4000000 in
set_option maxRecDepth 100000 in
theorem refUpper_any (s : ByteArray) (w : World) (hs : s.size ≤ 9223372036854775807) : Calls Tryz.prog 12 #[.string s] w (StrPost (Lib.toUpperA s.data.toList) w) := by
  have hcv := Lib.run_convert_string_bytes (P := Tryz.prog) w 9 52 5 s (u := .string) Tryz.underlying9 Tryz.underlying52 Tryz.underlying5
  have hR0 := lowRow_new Lib.upperB w s
  have hb0 := Go.Joins.below_bytesWorld w.heap.size w 5 s (Nat.le_refl _)
  have hl : s.data.toList.length = s.size := size_list s
  generalize grownCap w s.size 0 5 = gc at *
  generalize Lib.bytesWorld w 5 s = W1 at *
  generalize s.data.toList = l at *
  have HL := Lib.hid hl
  clear hl
  go_enter Tryz.func12, Tryz.ntmps12
  go_wp2_with fail
  go_loopw [9] (fun i wr => ∃ k : Nat, i = .int .i64 k ∧ k ≤ s.size ∧ LowRow Lib.upperB l wr w.heap.size k ∧ Below w.heap.size w wr) (fun i _ => s.size - (intOf i).toNat)
  case atStart => exact ⟨0, rfl, Nat.zero_le _, hR0, hb0⟩
  case round =>
    obtain ⟨k, rfl, hk, hR, hb⟩ := hrel
    clear hcv hR0 hb0
    by_cases hlt : k < s.size
    · have c0 := hR.cell k (by have := HL.out; omega)
      have f0 := hR.frozen k (by have := HL.out; omega)
      rw [if_neg (Nat.lt_irrefl _)] at c0
      obtain ⟨x, hx⟩ : ∃ x : UInt8, l.getD k 0 = x := ⟨_, rfl⟩
      obtain ⟨c, hc⟩ : ∃ c : Nat, x.toNat = c := ⟨_, rfl⟩
      have hc1 : c < 256 := hc ▸ UInt8.toNat_lt _
      rw [hx, hc] at c0
      have HR := Lib.hid hR
      have HX := Lib.hid hx
      have HC := Lib.hid hc
      clear hx hc hR
      by_cases h1 : 97 ≤ c ∧ c ≤ 122
      · obtain ⟨q1, q2⟩ := h1
        have hv : ((Lib.upperB x).toNat : Int) = (c : Int) - 32 := by
          have := upperB_in x (by rw [HC.out]; exact ⟨q1, q2⟩)
          rw [HC.out] at this; omega
        have hS := HR.out.set (by have := HL.out; omega : k < l.length)
        rw [HX.out, hv] at hS
        have HS := Lib.hid hS
        clear hS hv
        go_wp2_with fail
        go_roundw
        case rel => exact ⟨k + 1, by go_num, by omega, HS.out, hb.setCell (Nat.le_refl _) _⟩
        case measure => simp [intOf]; omega
      · have hS := HR.out.same (by rw [HX.out]; exact upperB_out x (by rw [HC.out]; exact h1))
        have HS := Lib.hid hS
        clear hS
        by_cases h2 : c < 97
        · clear h1
          go_wp2_with fail
          go_roundw
          case rel => exact ⟨k + 1, by go_num, by omega, HS.out, hb⟩
          case measure => simp [intOf]; omega
        · have h3 : 122 < c := by omega
          clear h1
          go_wp2_with fail
          go_roundw
          case rel => exact ⟨k + 1, by go_num, by omega, HS.out, hb⟩
          case measure => simp [intOf]; omega
    · obtain rfl : k = s.size := by omega
      have hm : (Lib.toUpperA l).length = s.size := by unfold Lib.toUpperA; rw [List.length_map]; exact HL.out
      have hcb := run_convert_bytes_back (P := Tryz.prog) wr 52 9 5 ⟨w.heap.size, 0, none⟩ gc (Lib.toUpperA l) Tryz.underlying52 Tryz.underlying5 Tryz.underlying9 (fun j hj => by
        rw [hm] at hj
        have hjl : j < l.length := by have := HL.out; omega
        have := hR.cell j hjl
        rw [if_pos hj] at this
        rw [Lib.add_plain, Nat.zero_add, this]
        simp [Lib.toUpperA, List.getD_eq_getElem?_getD, List.getElem?_eq_getElem hjl])
      rw [hm] at hcb
      clear hR hm
      go_wp2_with fail
      go_ret
      exact ⟨rfl, hb⟩

end Go.Proofs.YtlmjijiepnefdaaGreatDoor
