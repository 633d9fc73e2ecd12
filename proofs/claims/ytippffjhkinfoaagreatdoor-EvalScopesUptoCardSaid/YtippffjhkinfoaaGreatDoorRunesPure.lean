/-
  A text is no UTF-8 just where some rune reads as U+FFFD and its bytes are not those of U+FFFD: plain facts; no conditions.
-/
import Derived.Lib.ValidLaws
import Derived.Lib.TrimUEq
import Derived.Lib.MapLaws
import Derived.Shelf.Unicode.DecodeSlow
import Derived.Test.YtippffjhkinfoaaGreatDoorPure
namespace Go.Proofs.YtippffjhkinfoaaGreatDoor
open Go.Lib

set_option maxRecDepth 100000 in
set_option maxHeartbeats 4000000 in
theorem decodeN_err (n b0 b1 b2 b3 : Nat) (h0 : b0 < 256) (h : (decodeN n b0 b1 b2 b3).1 = 65533) :
    ((decodeN n b0 b1 b2 b3).2 = 1 ∧ ¬ (3 ≤ n ∧ b0 = 239 ∧ b1 = 191 ∧ b2 = 189)) ∨ ((decodeN n b0 b1 b2 b3).2 = 3 ∧ 3 ≤ n ∧ b0 = 239 ∧ b1 = 191 ∧ b2 = 189) := by
  unfold decodeN at *
  repeat' split at h
  all_goals simp only [*, if_true, if_false] at *
  all_goals first | (exfalso; omega) | (left; constructor <;> omega) | (right; refine ⟨rfl, ?_, ?_, ?_, ?_⟩ <;> omega) | skip
  all_goals simp_all
  all_goals omega

theorem three (s : ByteArray) (pos : Nat) (h : pos + 3 ≤ s.size) : (s.extract pos (pos + 3)).data.toList = [s.get! pos, s.get! (pos + 1), s.get! (pos + 2)] := by
  have hg : ∀ j, j < s.size → s.data.toList[j]? = some (s.get! j) := by
    intro j hj
    rw [Utf8W.get!_of_lt s j hj, List.getElem?_eq_getElem (by rw [Array.length_toList]; exact hj), Array.getElem_toList]
    rfl
  have hl : (s.extract pos (pos + 3)).data.toList = (s.data.toList.drop pos).take 3 := by
    rw [ByteArray.data_extract, Array.toList_extract, List.extract_eq_take_drop]
    congr 1
    omega
  rw [hl]
  apply List.ext_getElem?
  intro j
  match j with
  | 0 => simp [List.getElem?_drop, hg pos (by omega)]
  | 1 => simp [List.getElem?_drop, hg (pos + 1) (by omega)]
  | 2 => simp [List.getElem?_drop, hg (pos + 2) (by omega)]
  | j + 3 => simp [List.getElem?_take]; omega

/-- The bytes of U+FFFD. -/
def fffd : ByteArray := ⟨#[239, 191, 189]⟩

/-- A rune that reads as U+FFFD is one byte wide, and is not that one's three bytes; or it is that one's. -/
theorem rune_err (s : ByteArray) (pos : Nat) (h : pos < s.size) (hr : (Utf8.decode s pos).1 = 65533) :
    ((Utf8.decode s pos).2 = 1 ∧ (s.size < pos + 3 ∨ (pos + 3 ≤ s.size ∧ s.extract pos (pos + 3) ≠ fffd))) ∨ ((Utf8.decode s pos).2 = 3 ∧ pos + 3 ≤ s.size ∧ s.extract pos (pos + 3) = fffd) := by
  rw [decode_at] at hr ⊢
  have hd := decodeN_err (s.size - pos) (s.get! pos).toNat (s.get! (pos + 1)).toNat (s.get! (pos + 2)).toNat (s.get! (pos + 3)).toNat (UInt8.toNat_lt _) hr
  have key : pos + 3 ≤ s.size → (s.extract pos (pos + 3) = fffd ↔ (s.get! pos).toNat = 239 ∧ (s.get! (pos + 1)).toNat = 191 ∧ (s.get! (pos + 2)).toNat = 189) := by
    intro h3
    have ht := three s pos h3
    constructor
    · intro e
      rw [e] at ht
      have ht' : [(239 : UInt8), 191, 189] = [s.get! pos, s.get! (pos + 1), s.get! (pos + 2)] := ht
      simp only [List.cons.injEq, and_true] at ht'
      rw [← ht'.1, ← ht'.2.1, ← ht'.2.2]
      exact ⟨rfl, rfl, rfl⟩
    · intro ⟨e1, e2, e3⟩
      apply ba_eq
      rw [ht, UInt8.toNat_inj.mp (show (s.get! pos).toNat = (239 : UInt8).toNat from e1), UInt8.toNat_inj.mp (show (s.get! (pos + 1)).toNat = (191 : UInt8).toNat from e2), UInt8.toNat_inj.mp (show (s.get! (pos + 2)).toNat = (189 : UInt8).toNat from e3)]
      rfl
  rcases hd with ⟨h1, h2⟩ | ⟨h1, h2, h3, h4, h5⟩
  · left
    refine ⟨h1, ?_⟩
    by_cases h3 : pos + 3 ≤ s.size
    · right
      exact ⟨h3, fun e => h2 ⟨by omega, (key h3).mp e⟩⟩
    · left; omega
  · right
    exact ⟨h1, by omega, (key (by omega)).mpr ⟨h3, h4, h5⟩⟩

theorem validD_at (s : ByteArray) (pos : Nat) (h : pos < s.size) : validD (s.data.toList.drop pos) = if (Utf8.decode s pos).1 = 65533 ∧ (Utf8.decode s pos).2 = 1 then false else validD (s.data.toList.drop (pos + (Utf8.decode s pos).2)) := by
  rw [validD_step _ (by intro e; have := congrArg List.length e; rw [List.length_drop, Array.length_toList] at this; have h2 : s.size - pos = 0 := this; omega), decodeL_drop, List.drop_drop]

theorem width_ok (s : ByteArray) (pos : Nat) (h : pos < s.size) : 1 ≤ (Utf8.decode s pos).2 ∧ pos + (Utf8.decode s pos).2 ≤ s.size := by
  have hne : s.data.toList.drop pos ≠ [] := by intro e; have := congrArg List.length e; rw [List.length_drop, Array.length_toList] at this; have h2 : s.size - pos = 0 := this; omega
  have h1 := decodeL_width (s.data.toList.drop pos)
  have h2 := decodeL_le (s.data.toList.drop pos) hne
  rw [decodeL_drop] at h1 h2
  rw [List.length_drop, Array.length_toList] at h2
  have h3 : (Utf8.decode s pos).2 ≤ s.size - pos := h2
  omega

end Go.Proofs.YtippffjhkinfoaaGreatDoor
