/-
  The law of tokens' places.
-/
import Derived.Test.YtlhphnibnlccfaaDoorLexPl
import Derived.Deep.QuietTactic
import Derived.BigQuiet
namespace Go.Proofs.YtlhphnibnlccfaaDoor
open Go.RowKit

theorem own_cell {w : World} {base cap : Nat} {va : Option Addr} {L : List (Tok × Nat)} (h : OwnG encT 6 30 w base (.slice va L.length cap) L) (k : Nat) (hk : k < L.length) :
    ∃ g, va = some ⟨g, 0, none⟩ ∧ base ≤ g ∧ g < w.heap.size ∧ L.length ≤ cap ∧ cap ≤ maxLen ∧ ∀ i t p, L[i]? = some (t, p) → ∀ r u, (encT (t, p))[r]? = some u → w.cell? ⟨g, i * 6 + r, none⟩ = some u := by
  rcases h.shape with ⟨_, rfl⟩ | ⟨g, cap', e1, hb, hg, hl, hc, _⟩
  · simp at hk
  · obtain ⟨rfl, _, rfl⟩ : va = some ⟨g, 0, none⟩ ∧ L.length = L.length ∧ cap = cap' := by simpa using e1
    refine ⟨g, rfl, hb, hg, hl, hc, ?_⟩
    intro i t p hi r u hr
    rcases h.val encT_len with ⟨e2, _⟩ | ⟨b, off, cp, e2, _, _, hat, _⟩
    · simp at e2
    · obtain ⟨⟨rfl, rfl⟩, rfl⟩ : (g = b ∧ 0 = off) ∧ cap = cp := by simpa using e2
      have := hat i (t, p) hi r u hr
      rw [Nat.zero_add] at this
      exact this

def lexQ (s : ByteArray) : List (Tok × Nat) × Int × Nat := if s.size ≤ 4000 then lexR s.data.toList else ([], 2, 0)

set_option maxHeartbeats 4000000 in
set_option maxRecDepth 100000 in
theorem lex_big (s : ByteArray) (w : World) (hs : ¬ s.size ≤ 4000) :
    Calls Tryd.prog 5 #[.string s] w (LexPost ([], 2, 0) w) := by
  have h1 : 4000 < (s.size : Int) := by omega
  go_enter Tryd.func5, Tryd.ntmps5
  go_wp2_with fail
  refine bodyPost_ret (v := .tuple #[.slice none 0 0, .int .i64 2, .int .i64 0]) (by simp [results, Tryd.results5, go_sem]) rfl ⟨⟨_, rfl, by simp⟩, Below.refl _ _⟩

theorem lex_all (s : ByteArray) (w : World) (hV : LexV w) : Calls Tryd.prog 5 #[.string s] w (LexPost (lexQ s) w) := by
  unfold lexQ
  by_cases h : s.size ≤ 4000
  · rw [if_pos h]; exact lex_any s w h hV
  · rw [if_neg h]; exact lex_big s w h

def TruePost (w : World) (e : Ending) (w' : World) : Prop := e = .returned (.bool true) ∧ Below w.heap.size w w'

set_option maxHeartbeats 4000000 in
set_option maxRecDepth 100000 in
theorem alive_any (w : World) (hV : LexV w) : Calls Tryd.prog 4 #[] w (TruePost w) := by
  have HQ : Hid ((lexR (⟨#[97]⟩ : ByteArray).data.toList).2.1 = 0 ∧ 0 < (lexR (⟨#[97]⟩ : ByteArray).data.toList).1.length) := lexR_a
  go_enter Tryd.func4, Tryd.ntmps4
  go_wp2_with fail
  refine (lex_any ⟨#[97]⟩ _ (by decide) hV).mono ?_
  rintro e w1 ⟨⟨v, rfl, ho⟩, b1⟩
  generalize lexR (⟨#[97]⟩ : ByteArray).data.toList = R at *
  obtain ⟨L, er, pl⟩ := R
  obtain ⟨h1, h2⟩ := HQ.out
  obtain rfl : er = 0 := h1
  rw [if_pos rfl] at ho
  obtain ⟨va, cap, rfl⟩ := ho.slice
  have h2i : 0 < (L.length : Int) := by simp only [] at h2; omega
  have h2n : 0 < L.length := h2
  clear HQ h2 ho
  go_wp2_with fail
  refine bodyPost_ret (v := .bool true) (by simp [results, Tryd.results4, go_sem]) rfl ⟨rfl, b1⟩

set_option maxHeartbeats 4000000 in
set_option maxRecDepth 100000 in
theorem law_any (s : ByteArray) (w : World) (hV : LexV w) : Calls Tryd.prog 3 #[.string s] w (TruePost w) := by
  have HV := Lib.hid hV
  have hQ : lexQ s = lexQ s := rfl
  go_enter Tryd.func3, Tryd.ntmps3
  go_wp2_with fail
  refine (alive_any _ hV).mono ?_
  rintro e w1 ⟨rfl, b1⟩
  go_wp2_with fail
  refine (lex_all s _ (hV.below b1)).mono ?_
  rintro e w2 ⟨⟨v, rfl, ho⟩, b2⟩
  have hb2 := b1.trans (b2.mono b1.size)
  by_cases h0 : (lexQ s).2.1 = 0
  · have hs4 : s.size ≤ 4000 := by
      by_cases h : s.size ≤ 4000
      · exact h
      · unfold lexQ at h0; rw [if_neg h] at h0; simp at h0
    have hq : lexQ s = lexR s.data.toList := by unfold lexQ; rw [if_pos hs4]
    rw [if_pos h0] at ho
    rw [hq] at h0 ho ⊢
    have HP := Lib.hid (lexR_places s.data.toList h0)
    obtain ⟨va, cap, rfl⟩ := ho.slice
    have HO := Lib.hid ho
    clear ho hq hQ
    generalize hR : lexR s.data.toList = R at *
    obtain ⟨L, er, pl⟩ := R
    obtain rfl : er = 0 := h0
    clear hR
    simp only [] at HP HO
    go_wp2_with fail
    go_loopw [26] (fun i wr => ∃ k : Nat, i = .int .i64 k ∧ k ≤ L.length ∧ OwnG encT 6 30 wr w1.heap.size (.slice va L.length cap) L ∧ Below w.heap.size w wr) (fun i _ => L.length - (intOf i).toNat)
    case atStart => exact ⟨0, rfl, Nat.zero_le _, HO.out, hb2⟩
    case round =>
      obtain ⟨k, rfl, hk, hO, hb⟩ := hrel
      by_cases hlt : k < L.length
      · obtain ⟨g, rfl, hg1, hg2, hlc, hcm, hcells⟩ := own_cell hO k hlt
        obtain ⟨t, p, htp⟩ : ∃ t p, L[k]? = some (t, p) := ⟨L[k].1, L[k].2, by rw [List.getElem?_eq_getElem hlt]⟩
        obtain ⟨_, q2, q3, q4, q5, q6⟩ := HP.out k t p htp
        rw [Nat.sub_zero] at q2 q4 q5 q6
        rw [size_list] at q2
        have c0 : wr.cell? ⟨g, k * 6, none⟩ = _ := hcells k t p htp 0 _ rfl
        have c1 : wr.cell? ⟨g, k * 6 + 1, none⟩ = _ := hcells k t p htp 1 _ rfl
        have c2 : wr.cell? ⟨g, k * 6 + 2, none⟩ = _ := hcells k t p htp 2 _ rfl
        have c3 : wr.cell? ⟨g, k * 6 + 3, none⟩ = _ := hcells k t p htp 3 _ rfl
        have c4 : wr.cell? ⟨g, k * 6 + 4, none⟩ = _ := hcells k t p htp 4 _ rfl
        have c5 : wr.cell? ⟨g, k * 6 + 5, none⟩ = _ := hcells k t p htp 5 _ rfl
        have HC := Lib.hid hcells
        have HO' := Lib.hid hO
        have H6 := Lib.hid (And.intro q4 (And.intro q5 q6))
        have H3 := Lib.hid q3
        clear hcells hO q4 q5 q6 q3 HO
        go_wp2_with fail
        have bX : Blk (wr.alloc (.cells #[.int .i64 t.k, .string ⟨t.s.toArray⟩, .int .i64 t.dk, .int .i64 t.di, .string ⟨t.ds.toArray⟩, .int .i64 p] 30)) wr.heap.size (cellsT t p) 30 := Blk.new _ _ _
        have HO2 := Lib.hid (HO'.out.alloc (.cells #[.int .i64 t.k, .string ⟨t.s.toArray⟩, .int .i64 t.dk, .int .i64 t.di, .string ⟨t.ds.toArray⟩, .int .i64 p] 30))
        have hb3 := hb.alloc hb.size (.cells #[.int .i64 t.k, .string ⟨t.s.toArray⟩, .int .i64 t.dk, .int .i64 t.di, .string ⟨t.ds.toArray⟩, .int .i64 p] 30)
        have hg3 : g < (wr.alloc (.cells #[.int .i64 t.k, .string ⟨t.s.toArray⟩, .int .i64 t.dk, .int .i64 t.di, .string ⟨t.ds.toArray⟩, .int .i64 p] 30)).heap.size := by rw [World.size_alloc]; omega
        have hs3 : w1.heap.size ≤ (wr.alloc (.cells #[.int .i64 t.k, .string ⟨t.s.toArray⟩, .int .i64 t.dk, .int .i64 t.di, .string ⟨t.ds.toArray⟩, .int .i64 p] 30)).heap.size := by rw [World.size_alloc]; omega
        clear c0 c1 c2 c3 c4 c5 HC HO' hb
        generalize wr.alloc (.cells #[.int .i64 t.k, .string ⟨t.s.toArray⟩, .int .i64 t.dk, .int .i64 t.di, .string ⟨t.ds.toArray⟩, .int .i64 p] 30) = w3 at *
        generalize wr.heap.size = bx at *
        have x5 := bX.cell 5
        simp only [cellsT, List.getElem?_toArray, List.getElem?_cons_zero, List.getElem?_cons_succ] at x5
        have p1 : ¬ (p : Int) < 0 := by omega
        have p2 : ¬ (s.size : Int) < p := by omega
        by_cases hk0 : k = 0
        · subst hk0
          go_quiet (fail)
          have bX4 : Blk (w3.drewN nq) bx (cellsT t p) 30 := bX
          have HO4 : Hid (OwnG encT 6 30 (w3.drewN nq) w1.heap.size (.slice (some ⟨g, 0, none⟩) L.length cap) L) := HO2.out
          have hb4 : Below w.heap.size w (w3.drewN nq) := hb3.trans ⟨rfl, rfl, rfl, Nat.le_refl _, fun _ _ => rfl⟩
          have hs4' : w1.heap.size ≤ (w3.drewN nq).heap.size := hs3
          have x4 : (w3.drewN nq).cell? ⟨bx, 5, none⟩ = some (.int .i64 p) := x5
          generalize w3.drewN nq = w4 at *
          clear bX HO2 hb3 x5
          go_wp2_with fail
          refine (lex_all _ _ (HV.out.below hb4)).mono ?_
          rintro e w5 ⟨⟨v, rfl, ho⟩, b5⟩
          have hq2 : lexQ (s.extract p s.size) = lexR (s.data.toList.drop p) := by
            unfold lexQ; rw [if_pos (by have := ext_size s p; omega), Lib.extract_to_end]
          rw [hq2] at ho ⊢
          obtain ⟨r4, r5, r6⟩ := H6.out
          rw [if_pos r4] at ho
          clear hq2 H6
          generalize lexR (s.data.toList.drop p) = R2 at *
          obtain ⟨L2, e2, p2⟩ := R2
          obtain rfl : e2 = 0 := r4
          simp only [] at r5 r6 ho
          obtain ⟨va2, cap2, rfl⟩ := ho.slice
          have hl2 : 0 < L2.length := by omega
          obtain ⟨g2, rfl, _, hg2l, _, _, hcells⟩ := own_cell ho 0 hl2
          have d0 : w5.cell? ⟨g2, 0, none⟩ = _ := hcells 0 t 0 r6 0 _ rfl
          have d1 : w5.cell? ⟨g2, 1, none⟩ = _ := hcells 0 t 0 r6 1 _ rfl
          have d2 : w5.cell? ⟨g2, 2, none⟩ = _ := hcells 0 t 0 r6 2 _ rfl
          have d3 : w5.cell? ⟨g2, 3, none⟩ = _ := hcells 0 t 0 r6 3 _ rfl
          have d4 : w5.cell? ⟨g2, 4, none⟩ = _ := hcells 0 t 0 r6 4 _ rfl
          have d5 : w5.cell? ⟨g2, 5, none⟩ = some (.int .i64 0) := hcells 0 t 0 r6 5 _ rfl
          have bX5 := bX4.below b5
          have y0 := bX5.cell 0
          have y1 := bX5.cell 1
          have y2 := bX5.cell 2
          have y3 := bX5.cell 3
          have y4 := bX5.cell 4
          have y5 := bX5.cell 5
          simp only [cellsT, List.getElem?_toArray, List.getElem?_cons_zero, List.getElem?_cons_succ] at y0 y1 y2 y3 y4 y5
          have HO5 := Lib.hid (HO4.out.below b5)
          have hb5 := hb4.trans (b5.mono hb4.size)
          have hs5 : w1.heap.size ≤ w5.heap.size := Nat.le_trans hs4' b5.size
          have hmx : L.length ≤ maxLen := by omega
          have hle : IntKind.i64.wrap (L.length : Int) = (L2.length : Int) := by
            unfold maxLen at hmx
            rw [IntKind.wrap_i64]; omega
          have hl2i : 0 < (L2.length : Int) := by omega
          clear hcells bX5 bX4 HO4 hb4 hs4' b5 x4 ho
          clear r5 r6 HP
          go_wp2_with fail
          go_quiet (fail)
          have HO6 : OwnG encT 6 30 (w5.drewN nq) w1.heap.size (.slice (some ⟨g, 0, none⟩) L.length cap) L := HO5.out
          have hb6 : Below w.heap.size w (w5.drewN nq) := hb5.trans ⟨rfl, rfl, rfl, Nat.le_refl _, fun _ _ => rfl⟩
          generalize w5.drewN nq = w6 at *
          clear d0 d1 d2 d3 d4 d5 y0 y1 y2 y3 y4 y5 HO5 hb5
          go_wp2_with fail
          go_roundw
          case rel => exact ⟨1, by go_num, by omega, HO6, hb6⟩
          case measure => simp [intOf]; omega
        · obtain ⟨m, rfl⟩ : ∃ m, k = m + 1 := ⟨k - 1, by omega⟩
          have HLT := Lib.hid hlt
          have hk2 : decide (0 < m + 1) = true := by simp
          have hk9 : m + 1 ≤ maxLen := by omega
          have hk3 : IntKind.i64.wrap (((m + 1 : Nat) : Int) - 1) = (m : Int) := by
            unfold maxLen at hk9
            rw [IntKind.wrap_i64]; omega
          have hk6 : IntKind.i64.wrap (m : Int) = (m : Int) := by
            unfold maxLen at hk9
            rw [IntKind.wrap_i64]; omega
          have hk5 : m < L.length := by omega
          have hk7 : (m : Int) < L.length := by omega
          obtain ⟨q, hq⟩ : ∃ q, L[m]? = some q := ⟨L[m], List.getElem?_eq_getElem (by omega)⟩
          have hqp : ¬ (p : Int) ≤ (q.2 : Int) := by have := H3.out q (by omega) hq; omega
          obtain ⟨g', e1, _, _, _, _, hcells⟩ := own_cell HO2.out (m + 1) hlt
          obtain rfl : g = g' := by simpa using e1
          have z5 : w3.cell? ⟨g, m * 6 + 5, none⟩ = some (.int .i64 q.2) := hcells m q.1 q.2 hq 5 _ rfl
          generalize q.2 = qp at *
          clear hcells e1
          go_quiet (fail)
          have bX4 : Blk (w3.drewN nq) bx (cellsT t p) 30 := bX
          have HO4 : Hid (OwnG encT 6 30 (w3.drewN nq) w1.heap.size (.slice (some ⟨g, 0, none⟩) L.length cap) L) := HO2.out
          have hb4 : Below w.heap.size w (w3.drewN nq) := hb3.trans ⟨rfl, rfl, rfl, Nat.le_refl _, fun _ _ => rfl⟩
          have hs4' : w1.heap.size ≤ (w3.drewN nq).heap.size := hs3
          have x4 : (w3.drewN nq).cell? ⟨bx, 5, none⟩ = some (.int .i64 p) := x5
          generalize w3.drewN nq = w4 at *
          clear bX HO2 hb3 x5 z5 hqp hq hk3 hk6 hk9 hk2
          go_wp2_with fail
          refine (lex_all _ _ (HV.out.below hb4)).mono ?_
          rintro e w5 ⟨⟨v, rfl, ho⟩, b5⟩
          have hq2 : lexQ (s.extract p s.size) = lexR (s.data.toList.drop p) := by
            unfold lexQ; rw [if_pos (by have := ext_size s p; omega), Lib.extract_to_end]
          rw [hq2] at ho ⊢
          obtain ⟨r4, r5, r6⟩ := H6.out
          rw [if_pos r4] at ho
          clear hq2 H6
          generalize lexR (s.data.toList.drop p) = R2 at *
          obtain ⟨L2, e2, p2⟩ := R2
          obtain rfl : e2 = 0 := r4
          simp only [] at r5 r6 ho
          obtain ⟨va2, cap2, rfl⟩ := ho.slice
          have hl2 : 0 < L2.length := by omega
          obtain ⟨g2, rfl, _, hg2l, _, _, hcells⟩ := own_cell ho 0 hl2
          have d0 : w5.cell? ⟨g2, 0, none⟩ = _ := hcells 0 t 0 r6 0 _ rfl
          have d1 : w5.cell? ⟨g2, 1, none⟩ = _ := hcells 0 t 0 r6 1 _ rfl
          have d2 : w5.cell? ⟨g2, 2, none⟩ = _ := hcells 0 t 0 r6 2 _ rfl
          have d3 : w5.cell? ⟨g2, 3, none⟩ = _ := hcells 0 t 0 r6 3 _ rfl
          have d4 : w5.cell? ⟨g2, 4, none⟩ = _ := hcells 0 t 0 r6 4 _ rfl
          have d5 : w5.cell? ⟨g2, 5, none⟩ = some (.int .i64 0) := hcells 0 t 0 r6 5 _ rfl
          have bX5 := bX4.below b5
          have y0 := bX5.cell 0
          have y1 := bX5.cell 1
          have y2 := bX5.cell 2
          have y3 := bX5.cell 3
          have y4 := bX5.cell 4
          have y5 := bX5.cell 5
          simp only [cellsT, List.getElem?_toArray, List.getElem?_cons_zero, List.getElem?_cons_succ] at y0 y1 y2 y3 y4 y5
          have HO5 := Lib.hid (HO4.out.below b5)
          have hb5 := hb4.trans (b5.mono hb4.size)
          have hs5 : w1.heap.size ≤ w5.heap.size := Nat.le_trans hs4' b5.size
          have hmx : L.length ≤ maxLen := by omega
          have hle : IntKind.i64.wrap ((L.length : Int) - ((m : Int) + 1)) = (L2.length : Int) := by
            unfold maxLen at hmx
            rw [IntKind.wrap_i64]; omega
          have hl2i : 0 < (L2.length : Int) := by omega
          clear hcells bX5 bX4 HO4 hb4 hs4' b5 x4 ho
          clear r5 r6 HP
          go_wp2_with fail
          go_quiet (fail)
          have HO6 : OwnG encT 6 30 (w5.drewN nq) w1.heap.size (.slice (some ⟨g, 0, none⟩) L.length cap) L := HO5.out
          have hb6 : Below w.heap.size w (w5.drewN nq) := hb5.trans ⟨rfl, rfl, rfl, Nat.le_refl _, fun _ _ => rfl⟩
          generalize w5.drewN nq = w6 at *
          clear d0 d1 d2 d3 d4 d5 y0 y1 y2 y3 y4 y5 HO5 hb5
          have hbd : (m : Int) + 1 + 1 ≤ 9223372036854775807 := by
            have h1 := HLT.out
            have h2 := hmx
            unfold maxLen at h2
            omega
          go_wp2_with fail
          go_roundw
          case rel => exact ⟨m + 1 + 1, by go_num, HLT.out, HO6, hb6⟩
          case measure => have := HLT.out; simp [intOf]; omega
      · obtain rfl : k = L.length := by omega
        go_wp2
        go_ret
        exact ⟨rfl, hb⟩
  · rw [if_neg h0] at ho
    subst ho
    generalize lexQ s = R at *
    have hn : (R.2.1 != 0) = true := by simpa using h0
    have hn2 : (R.2.1 == 0) = false := by simpa using h0
    go_wp2_with fail
    go_ret
    exact ⟨rfl, hb2⟩

end Go.Proofs.YtlhphnibnlccfaaDoor
