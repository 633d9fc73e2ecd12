/-
  Two digits of sixteen are read as the byte that they spell.
-/
import Derived.Test.YtlmjijiepnefdaaGreatDoorLexNumber
import Derived.Shelf.Pu.Lower
import Derived.Lib.ConvBytes
import Derived.Laws.Strings3
import Derived.Laws.Closers25
import Derived.Laws.Closers25b
import Derived.WalkKit
import Derived.BigCall
import Derived.BigGuard
namespace Go.Proofs.YtlmjijiepnefdaaGreatDoor
open Go.RowKit

/-- The value of a digit of sixteen. -/
def nibV (c : UInt8) : Nat := if c.toNat ≤ 57 then c.toNat - 48 else if c.toNat ≤ 70 then c.toNat - 55 else c.toNat - 87
def hexF (a : Nat) (l : List UInt8) : Nat := l.foldl (fun a c => a * 16 + nibV c) a
theorem hexF_cons (a : Nat) (c : UInt8) (l : List UInt8) : hexF a (c :: l) = hexF (a * 16 + nibV c) l := by unfold hexF; rw [List.foldl_cons]

theorem hex_low : ∀ c : UInt8, hexB c = true → (48 ≤ c.toNat ∧ c.toNat ≤ 57 ∧ (nibV c : Int) = (c.toNat : Int) - 48) ∨ (57 < c.toNat ∧ c.toNat < 128 ∧ c.toNat ≠ 95 ∧ 97 ≤ (c.toNat ||| 32) ∧ (c.toNat ||| 32) ≤ 102 ∧ nibV c + 87 = c.toNat ||| 32) :=
  u8_all _ (by decide +kernel)
theorem hex_or : ∀ c : UInt8, bits .or .u8 (c.toNat : Int) 32 = ((c.toNat ||| 32 : Nat) : Int) := u8_all _ (by decide +kernel)

set_option maxHeartbeats 8000000 in
set_option maxRecDepth 100000 in
theorem parse16_in (t : ByteArray) (h2 : t.size = 2) (hx : ∀ c ∈ t.data.toList, hexB c = true) (w : World) :
    Calls Tryz.prog 73 #[.string t, .int .i64 16, .int .i64 8] w fun e w' => e = .returned (.tuple #[.int .u64 (hexF 0 t.data.toList : Nat), .nilIface]) ∧ w' = Lib.bytesWorld w 5 t := by
  have hemp : t.toList.isEmpty = false := by
    rw [← decide_eq_emptyBytes]
    exact decide_eq_false (fun h => by rw [h] at h2; exact absurd h2 (by decide))
  have hcv := Lib.run_convert_string_bytes (P := Tryz.prog) w 9 52 5 t (u := .string) Tryz.underlying9 Tryz.underlying52 Tryz.underlying5
  have hB : ∀ j, j < t.size → (Lib.bytesWorld w 5 t).cell? ⟨w.heap.size, j, none⟩ = some (.int .u8 (t.data.toList.getD j 0).toNat) := fun j hj => Lib.bytesWorld_cell w 5 t j hj
  obtain ⟨W1, hW1⟩ : ∃ W1, W1 = Lib.bytesWorld w 5 t := ⟨_, rfl⟩
  rw [← hW1] at hcv hB ⊢
  clear hW1
  obtain ⟨bs, hL⟩ : ∃ bs, bs = t.data.toList := ⟨_, rfl⟩
  have hLn : bs.length = t.size := by rw [hL, Lib.size_eq]
  rw [← hL] at hB hx ⊢
  clear hL
  have hmv : IntKind.u64.wrap (IntKind.u64.wrap 256 - 1) = 255 := by
    rw [IntKind.wrap_u64, IntKind.wrap_u64]
    decide
  go_enter Tryz.func73, Tryz.ntmps73
  go_wp2
  go_loop [12, 13, 101] (fun vu vn vi => ∃ (k acc : Nat) (a : Int), vu = .bool false ∧ vn = .int .u64 a ∧ vi = .int .i64 k ∧ k ≤ t.size ∧ Hid (a = (acc : Int) ∧ acc ≤ 255 ∧ (k ≤ 1 → acc ≤ 15) ∧ (k = 0 → acc = 0) ∧ hexF 0 bs = hexF acc (bs.drop k)))
    (fun _ _ vi => t.size - (intOf vi).toNat)
  case atStart => exact ⟨0, 0, 0, rfl, rfl, rfl, by omega, rfl, by omega, by omega, by omega, rfl⟩
  case round =>
    obtain ⟨k, acc, a, rfl, rfl, rfl, hk, hh⟩ := hrel
    obtain ⟨ha, hacc, h15, h00, hdec⟩ := hh.out
    clear hh
    have a0 : 0 ≤ a := by omega
    have a1 : a ≤ 255 := by omega
    by_cases hkn : k < t.size
    · have hc := hB k hkn
      have a15 : a ≤ 15 := by omega
      have hdrop : bs.drop k = bs[k]'(by omega) :: bs.drop (k + 1) := List.drop_eq_getElem_cons (by omega)
      have hget : bs.getD k 0 = bs[k]'(by omega) := by simp [List.getD, List.getElem?_eq_getElem (show k < bs.length by omega)]
      have hxk : hexB (bs[k]'(by omega)) = true := hx _ (List.getElem_mem _)
      rw [hdrop] at hdec
      rw [hget] at hc
      generalize bs[k]'(by omega) = c at hc hdec hxk
      have hc256 : c.toNat < 256 := c.toNat_lt
      clear hB hdrop hget hx
      have hor := hex_or c
      rw [hexF_cons] at hdec
      rcases hex_low c hxk with ⟨hd0, hd1, hn⟩ | ⟨hd0, hd1, h95, hl0, hl1, hn⟩
      · have HN : Hid (a * 16 + ((c.toNat : Int) - 48) = ((acc * 16 + nibV c : Nat) : Int) ∧ acc * 16 + nibV c ≤ 255 ∧ (k + 1 ≤ 1 → acc * 16 + nibV c ≤ 15) ∧ (k + 1 = 0 → acc * 16 + nibV c = 0) ∧ hexF 0 bs = hexF (acc * 16 + nibV c) (bs.drop (k + 1))) := Lib.hid ⟨by omega, by omega, by omega, by omega, hdec⟩
        clear hacc h15 h00 ha hor hn hdec hxk a1
        go_wp2
        refine ⟨⟨k + 1, acc * 16 + nibV c, a * 16 + ((c.toNat : Int) - 48), rfl, (by first | rfl | (congr 1; omega)), (by first | rfl | (congr 1; omega)), by omega, HN⟩, by simp [intOf]; omega⟩
      · generalize hlo : c.toNat ||| 32 = l at *
        have HN : Hid (a * 16 + ((l : Int) - 87) = ((acc * 16 + nibV c : Nat) : Int) ∧ acc * 16 + nibV c ≤ 255 ∧ (k + 1 ≤ 1 → acc * 16 + nibV c ≤ 15) ∧ (k + 1 = 0 → acc * 16 + nibV c = 0) ∧ hexF 0 bs = hexF (acc * 16 + nibV c) (bs.drop (k + 1))) := Lib.hid ⟨by omega, by omega, by omega, by omega, hdec⟩
        have hlow : ∀ w, Calls Tryz.prog 94 #[.int .u8 c.toNat] w fun e w' => e = .returned (.int .u8 l) ∧ w' = w := by
          intro w
          have := AnyPu.internal_strconv_lower (P := Tryz.prog) (ρ := Tryz.laysPu14_ren) { Tryz.laysPu14 with } (c.toNat : Int) w
          rw [hor] at this
          exact this
        clear hacc h15 h00 ha hn hdec hxk a1 hlo hor
        go_wp2_with fail
        refine (hlow _).mono ?_
        rintro e w' ⟨rfl, rfl⟩
        go_wp2_with fail
        refine (hlow _).mono ?_
        rintro e w' ⟨rfl, rfl⟩
        go_wp2_with fail
        refine (hlow _).mono ?_
        rintro e w' ⟨rfl, rfl⟩
        go_wp2_with fail
        refine ⟨⟨k + 1, acc * 16 + nibV c, a * 16 + ((l : Int) - 87), rfl, (by first | rfl | (congr 1; omega)), (by first | rfl | (congr 1; omega)), by omega, HN⟩, by simp [intOf]; omega⟩
    · have hkk : k = t.size := by omega
      subst hkk
      rw [List.drop_eq_nil_of_le (by omega)] at hdec
      have hdec : hexF 0 bs = acc := hdec
      subst ha
      clear hacc h15 h00 a0 a1
      go_wp2
      go_ret2
      exact ⟨rfl, rfl⟩

set_option maxHeartbeats 4000000 in
set_option maxRecDepth 100000 in
theorem parse16 (t : ByteArray) (h2 : t.size = 2) (hx : ∀ c ∈ t.data.toList, hexB c = true) (w : World) :
    Calls Tryz.prog 51 #[.string t, .int .i64 16, .int .i64 8] w fun e w' => e = .returned (.tuple #[.int .u64 (hexF 0 t.data.toList : Nat), .nilIface]) ∧ Below w.heap.size w w' := by
  have hI := parse16_in t h2 hx w
  go_enter Tryz.func51, Tryz.ntmps51
  go_wp2_with fail
  refine hI.mono ?_
  rintro e W1 ⟨rfl, rfl⟩
  go_wp2_with fail
  go_ret2
  exact ⟨rfl, Go.Joins.below_bytesWorld _ _ _ _ (Nat.le_refl _)⟩

end Go.Proofs.YtlmjijiepnefdaaGreatDoor
