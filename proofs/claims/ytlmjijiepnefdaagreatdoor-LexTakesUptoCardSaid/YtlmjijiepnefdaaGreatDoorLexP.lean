/-
  How many bytes of a kind stand at a text's beginning: rune by rune it is the same as byte by byte, where a kind holds of all beyond ASCII, or of none.
-/
import Derived.Test.YtlmjijiepnefdaaGreatDoorRunesPure
import Derived.Lib.DecodeN
namespace Go.Proofs.YtlmjijiepnefdaaGreatDoor
open Go Go.Lib

/-- How many bytes of a kind stand ahead. -/
def runN (p : UInt8 → Bool) (l : List UInt8) : Nat := (l.takeWhile p).length

theorem runN_nil (p : UInt8 → Bool) : runN p [] = 0 := rfl
theorem runN_cons (p : UInt8 → Bool) (c : UInt8) (l : List UInt8) : runN p (c :: l) = if p c then runN p l + 1 else 0 := by
  unfold runN; rw [List.takeWhile_cons]; split <;> rfl
theorem runN_le (p : UInt8 → Bool) (l : List UInt8) : runN p l ≤ l.length := by
  induction l with
  | nil => simp [runN]
  | cons c l ih => rw [runN_cons, List.length_cons]; split <;> omega

/-- Is a rune of a kind: p of ASCII, hi of all others? -/
def kindR (p : UInt8 → Bool) (hi : Bool) (r : Nat) : Bool := if r < 128 then p (UInt8.ofNat r) else hi

theorem get_drop (s : ByteArray) (pos : Nat) (h : pos < s.size) : s.data.toList.drop pos = s.get! pos :: s.data.toList.drop (pos + 1) := by
  have hl : pos < s.data.toList.length := by rw [Array.length_toList]; exact h
  rw [List.drop_eq_getElem_cons hl]
  congr 1
  rw [Utf8W.get!_of_lt s pos h, Array.getElem_toList]
  rfl

theorem run_stop (p : UInt8 → Bool) (s : ByteArray) (pos : Nat) (h : pos < s.size) (hp : p (s.get! pos) = false) : runN p (s.data.toList.drop pos) = 0 := by
  rw [get_drop s pos h, runN_cons, hp]; rfl
theorem run_go (p : UInt8 → Bool) (s : ByteArray) (pos : Nat) (h : pos < s.size) (hp : p (s.get! pos) = true) : runN p (s.data.toList.drop pos) = 1 + runN p (s.data.toList.drop (pos + 1)) := by
  rw [get_drop s pos h, runN_cons, hp]; simp; omega
theorem run_many (p : UInt8 → Bool) (s : ByteArray) : ∀ (d pos : Nat), pos + d ≤ s.size → (∀ j, j < d → p (s.get! (pos + j)) = true) → runN p (s.data.toList.drop pos) = d + runN p (s.data.toList.drop (pos + d))
  | 0, pos, _, _ => by simp
  | d + 1, pos, h, hp => by
    rw [run_go p s pos (by omega) (hp 0 (by omega)), run_many p s d (pos + 1) (by omega) (fun j hj => by have := hp (j + 1) (by omega); rwa [show pos + 1 + j = pos + (j + 1) by omega])]
    rw [show pos + 1 + d = pos + (d + 1) by omega]; omega

set_option maxRecDepth 100000 in
set_option maxHeartbeats 4000000 in
/-- A rune that begins beyond ASCII lies beyond ASCII, and so do all its bytes. -/
theorem decodeN_high (n b0 b1 b2 b3 : Nat) (h : 128 ≤ b0) : 128 ≤ (decodeN n b0 b1 b2 b3).1 ∧ (2 ≤ (decodeN n b0 b1 b2 b3).2 → 128 ≤ b1) ∧ (3 ≤ (decodeN n b0 b1 b2 b3).2 → 128 ≤ b2) ∧ (4 ≤ (decodeN n b0 b1 b2 b3).2 → 128 ≤ b3) ∧ (decodeN n b0 b1 b2 b3).2 ≤ 4 := by
  unfold decodeN
  rw [if_neg (by omega)]
  repeat' split
  all_goals refine ⟨?_, ?_, ?_, ?_, ?_⟩
  all_goals simp only []
  all_goals first | omega | (intro hx; omega)

theorem decodeN_low (n b0 b1 b2 b3 : Nat) (h : b0 < 128) : decodeN n b0 b1 b2 b3 = (b0, 1) := by
  unfold decodeN; rw [if_pos h]

/-- What a step of the program's loop does: a rune of the kind is passed over, whole; at another one the count stands still. -/
theorem run_step (p : UInt8 → Bool) (hi : Bool) (hp : ∀ b : UInt8, 128 ≤ b.toNat → p b = hi) (s : ByteArray) (pos : Nat) (h : pos < s.size) :
    (kindR p hi (Utf8.decode s pos).1 = true → runN p (s.data.toList.drop pos) = (Utf8.decode s pos).2 + runN p (s.data.toList.drop (pos + (Utf8.decode s pos).2))) ∧
    (kindR p hi (Utf8.decode s pos).1 = false → runN p (s.data.toList.drop pos) = 0) := by
  have hw := width_ok s pos h
  have hd := decode_at s pos
  rcases Nat.lt_or_ge (s.get! pos).toNat 128 with h0 | h0
  · have e : Utf8.decode s pos = ((s.get! pos).toNat, 1) := by rw [hd, decodeN_low _ _ _ _ _ h0]
    rw [e]
    unfold kindR
    rw [if_pos h0, UInt8.ofNat_toNat]
    exact ⟨fun hk => run_go p s pos h hk, fun hk => run_stop p s pos h hk⟩
  · obtain ⟨g0, g1, g2, g3, g4⟩ := decodeN_high (s.size - pos) (s.get! pos).toNat (s.get! (pos + 1)).toNat (s.get! (pos + 2)).toNat (s.get! (pos + 3)).toNat h0
    rw [← hd] at g0 g1 g2 g3 g4
    have hk : kindR p hi (Utf8.decode s pos).1 = hi := by unfold kindR; rw [if_neg (by omega)]
    rw [hk]
    constructor
    · intro hh
      refine run_many p s _ pos hw.2 (fun j hj => ?_)
      rw [hp _ ?_, hh]
      have hj4 : j = 0 ∨ j = 1 ∨ j = 2 ∨ j = 3 := by omega
      rcases hj4 with rfl | rfl | rfl | rfl
      · exact h0
      · exact g1 (by omega)
      · exact g2 (by omega)
      · exact g3 (by omega)
    · intro hh
      exact run_stop p s pos h (by rw [hp _ h0, hh])

/-! The kinds. -/
def blankB (c : UInt8) : Bool := c == 32 || c == 9 || c == 10 || c == 13
def lineB (c : UInt8) : Bool := c != 10
def letterB (c : UInt8) : Bool := (65 ≤ c && c ≤ 90) || (97 ≤ c && c ≤ 122) || c == 95
def digitB (c : UInt8) : Bool := 48 ≤ c && c ≤ 57
def nameB (c : UInt8) : Bool := letterB c || digitB c
def hexB (c : UInt8) : Bool := digitB c || (65 ≤ c && c ≤ 70) || (97 ≤ c && c ≤ 102)

theorem u8_all (P : UInt8 → Prop) (h : ∀ n : Fin 256, P (UInt8.ofNat n.val)) (c : UInt8) : P c := by
  have := h ⟨c.toNat, UInt8.toNat_lt c⟩
  simpa using this

theorem blank_hi : ∀ b : UInt8, 128 ≤ b.toNat → blankB b = false := u8_all _ (by decide +kernel)
theorem line_hi : ∀ b : UInt8, 128 ≤ b.toNat → lineB b = true := u8_all _ (by decide +kernel)
theorem letter_hi : ∀ b : UInt8, 128 ≤ b.toNat → letterB b = false := u8_all _ (by decide +kernel)
theorem digit_hi : ∀ b : UInt8, 128 ≤ b.toNat → digitB b = false := u8_all _ (by decide +kernel)
theorem name_hi : ∀ b : UInt8, 128 ≤ b.toNat → nameB b = false := u8_all _ (by decide +kernel)
theorem hex_hi : ∀ b : UInt8, 128 ≤ b.toNat → hexB b = false := u8_all _ (by decide +kernel)

/-! .. as tests of a rune. -/
def blankI (r : Int) : Bool := decide (r = 32) || decide (r = 9) || decide (r = 10) || decide (r = 13)
def lineI (r : Int) : Bool := decide (r ≠ 10)
def letterI (r : Int) : Bool := (decide (65 ≤ r) && decide (r ≤ 90)) || (decide (97 ≤ r) && decide (r ≤ 122)) || decide (r = 95)
def digitI (r : Int) : Bool := decide (48 ≤ r) && decide (r ≤ 57)
def nameI (r : Int) : Bool := letterI r || digitI r
def hexI (r : Int) : Bool := digitI r || (decide (65 ≤ r) && decide (r ≤ 70)) || (decide (97 ≤ r) && decide (r ≤ 102))

theorem kind_of (p : UInt8 → Bool) (hi : Bool) (q : Int → Bool) (h1 : ∀ n : Fin 128, q (n.val : Int) = p (UInt8.ofNat n.val)) (h2 : ∀ r : Nat, 128 ≤ r → q (r : Int) = hi) (r : Nat) : q (r : Int) = kindR p hi r := by
  unfold kindR
  split
  · rename_i h; exact h1 ⟨r, h⟩
  · exact h2 r (by omega)

theorem blank_is (r : Nat) : blankI r = kindR blankB false r := kind_of _ _ _ (by decide +kernel) (fun r h => by unfold blankI; simp; omega) r
theorem line_is (r : Nat) : lineI r = kindR lineB true r := kind_of _ _ _ (by decide +kernel) (fun r h => by unfold lineI; simp; omega) r
theorem letter_is (r : Nat) : letterI r = kindR letterB false r := kind_of _ _ _ (by decide +kernel) (fun r h => by unfold letterI; simp; omega) r
theorem digit_is (r : Nat) : digitI r = kindR digitB false r := kind_of _ _ _ (by decide +kernel) (fun r h => by unfold digitI; simp; omega) r
theorem name_is (r : Nat) : nameI r = kindR nameB false r := kind_of _ _ _ (by decide +kernel) (fun r h => by unfold nameI letterI digitI; simp; omega) r
theorem hex_is (r : Nat) : hexI r = kindR hexB false r := kind_of _ _ _ (by decide +kernel) (fun r h => by unfold hexI digitI; simp; omega) r

end Go.Proofs.YtlmjijiepnefdaaGreatDoor
