/-
  The contract of the law's comparison of two lists of tokens.
-/
import Derived.Test.YtlmjijiepnefdaaGreatDoorShowG
import Derived.Deep.QuietTactic
import Derived.BigQuiet
namespace Go.Proofs.YtlmjijiepnefdaaGreatDoor
open Go.RowKit

def TruePost (w : World) (e : Ending) (w' : World) : Prop := e = .returned (.bool true) ∧ Below w.heap.size w w'

/-- Cells of tokens, from a block's beginning on. -/
def TokAt (w : World) (g : Nat) (L : List (Tok × Nat)) : Prop := ∀ i t p, L[i]? = some (t, p) → ∀ r u, (encT (t, p))[r]? = some u → w.cell? ⟨g, i * 6 + r, none⟩ = some u
theorem own_at {w : World} {base cap : Nat} {va : Option Addr} {L : List (Tok × Nat)} (h : OwnG encT 6 33 w base (.slice va L.length cap) L) (hk : 0 < L.length) :
    ∃ g, va = some ⟨g, 0, none⟩ ∧ base ≤ g ∧ g < w.heap.size ∧ L.length ≤ cap ∧ cap ≤ maxLen ∧ TokAt w g L := by
  rcases h.shape with ⟨_, rfl⟩ | ⟨g, cap', e1, hb, hg, hl, hc, _⟩
  · simp at hk
  · obtain ⟨rfl, _, rfl⟩ : va = some ⟨g, 0, none⟩ ∧ L.length = L.length ∧ cap = cap' := by simpa using e1
    refine ⟨g, rfl, hb, hg, hl, hc, ?_⟩
    intro i t p hi r u hr
    rcases h.val encT_len with ⟨e2, _⟩ | ⟨b, off, cp, e2, _, _, hat, _⟩
    · simp at e2
    · obtain ⟨⟨rfl, rfl⟩, rfl⟩ : (g = b ∧ 0 = off) ∧ cap = cp := by simpa using e2
      have := hat i (t, p) hi r u hr
      rw [Nat.zero_add] at this
      exact this
theorem TokAt.below {w w' : World} {g : Nat} {L : List (Tok × Nat)} (h : TokAt w g L) (hg : g < w.heap.size) (hb : Below w.heap.size w w') : TokAt w' g L :=
  fun i t p hi r u hr => by rw [hb.cell (p := ⟨g, i * 6 + r, none⟩) hg]; exact h i t p hi r u hr

set_option maxHeartbeats 4000000 in
set_option maxRecDepth 100000 in
theorem same_some (places : Bool) (L M : List (Tok × Nat)) (ga gb ca cb : Nat) (w : World) (hga : ga < w.heap.size) (hgb : gb < w.heap.size) (hA : TokAt w ga L) (hB : TokAt w gb M)
    (hm : L.length ≤ 1001) (h : L.map Prod.fst = M.map Prod.fst) (hp : places = true → L = M) :
    Calls Tryz.prog 9 #[.slice (some ⟨ga, 0, none⟩) L.length ca, .slice (some ⟨gb, 0, none⟩) M.length cb, .bool places] w (TruePost w) := by
  have hl : L.length = M.length := by have := congrArg List.length h; simpa using this
  have HA := Lib.hid hA
  have HB := Lib.hid hB
  have HM := Lib.hid h
  have HP := Lib.hid hp
  have HL := Lib.hid hl
  have HGA := Lib.hid hga
  have HGB := Lib.hid hgb
  rw [← hl]
  clear hA hB h hp hl hga hgb
  go_enter Tryz.func9, Tryz.ntmps9
  go_wp2_with fail
  go_loopw [15] (fun i wr => ∃ k : Nat, i = .int .i64 k ∧ k ≤ L.length ∧ Below w.heap.size w wr) (fun i _ => L.length - (intOf i).toNat)
  case atStart => exact ⟨0, rfl, Nat.zero_le _, Below.refl _ _⟩
  case round =>
    obtain ⟨k, rfl, hk, hb⟩ := hrel
    by_cases hlt : k < L.length
    · obtain ⟨t, p, q, ht, hq, hpq⟩ : ∃ t p q, L[k]? = some (t, p) ∧ M[k]? = some (t, q) ∧ (places = true → p = q) := by
        have h1 : L[k]? = some L[k] := List.getElem?_eq_getElem hlt
        have hlt2 : k < M.length := by have := HL.out; omega
        have h2 : M[k]? = some M[k] := List.getElem?_eq_getElem hlt2
        have h3 : (L.map Prod.fst)[k]? = (M.map Prod.fst)[k]? := by rw [HM.out]
        rw [List.getElem?_map, List.getElem?_map, h1, h2] at h3
        simp only [Option.map_some, Option.some.injEq] at h3
        refine ⟨L[k].1, L[k].2, M[k].2, h1, by rw [h2, h3], fun hp => ?_⟩
        have := HP.out hp
        subst this
        rfl
      have hka := HA.out.below HGA.out hb
      have hkb := HB.out.below HGB.out hb
      have c0 : wr.cell? ⟨ga, k * 6, none⟩ = _ := hka k t p ht 0 _ rfl
      have c1 : wr.cell? ⟨ga, k * 6 + 1, none⟩ = _ := hka k t p ht 1 _ rfl
      have c2 : wr.cell? ⟨ga, k * 6 + 2, none⟩ = _ := hka k t p ht 2 _ rfl
      have c3 : wr.cell? ⟨ga, k * 6 + 3, none⟩ = _ := hka k t p ht 3 _ rfl
      have c4 : wr.cell? ⟨ga, k * 6 + 4, none⟩ = _ := hka k t p ht 4 _ rfl
      have c5 : wr.cell? ⟨ga, k * 6 + 5, none⟩ = some (.int .i64 p) := hka k t p ht 5 _ rfl
      have d0 : wr.cell? ⟨gb, k * 6, none⟩ = _ := hkb k t q hq 0 _ rfl
      have d1 : wr.cell? ⟨gb, k * 6 + 1, none⟩ = _ := hkb k t q hq 1 _ rfl
      have d2 : wr.cell? ⟨gb, k * 6 + 2, none⟩ = _ := hkb k t q hq 2 _ rfl
      have d3 : wr.cell? ⟨gb, k * 6 + 3, none⟩ = _ := hkb k t q hq 3 _ rfl
      have d4 : wr.cell? ⟨gb, k * 6 + 4, none⟩ = _ := hkb k t q hq 4 _ rfl
      have d5 : wr.cell? ⟨gb, k * 6 + 5, none⟩ = some (.int .i64 q) := hkb k t q hq 5 _ rfl
      clear hka hkb ht hq
      cases places with
      | false =>
        clear hpq
        go_wp2_with fail
        go_quiet (fail)
        have hb2 : Below w.heap.size w (wr.drewN nq) := hb.trans ⟨rfl, rfl, rfl, Nat.le_refl _, fun _ _ => rfl⟩
        clear c0 c1 c2 c3 c4 c5 d0 d1 d2 d3 d4 d5 hb
        generalize wr.drewN nq = w4 at *
        go_wp2_with fail
        go_roundw
        case rel => exact ⟨k + 1, by go_num, by omega, hb2⟩
        case measure => simp [intOf]; omega
      | true =>
        obtain rfl := hpq rfl
        go_wp2_with fail
        go_quiet (fail)
        have hb2 : Below w.heap.size w (wr.drewN nq) := hb.trans ⟨rfl, rfl, rfl, Nat.le_refl _, fun _ _ => rfl⟩
        clear c0 c1 c2 c3 c4 c5 d0 d1 d2 d3 d4 d5 hb
        generalize wr.drewN nq = w4 at *
        go_wp2_with fail
        go_roundw
        case rel => exact ⟨k + 1, by go_num, by omega, hb2⟩
        case measure => simp [intOf]; omega
    · obtain rfl : k = L.length := by omega
      go_wp2
      go_ret
      exact ⟨rfl, hb⟩

end Go.Proofs.YtlmjijiepnefdaaGreatDoor
