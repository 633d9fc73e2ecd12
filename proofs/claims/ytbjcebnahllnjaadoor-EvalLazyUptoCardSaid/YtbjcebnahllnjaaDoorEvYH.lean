/-
  EvalLazy, the second form: for every expression and value that are together of bulk at most 1048576 the law returns true, and its arguments read as they did; the tables of unicode/utf8 that the row lists start as the program's text lays them (the card ties them).
  EvalLazy: the law returns true.
-/
import Derived.Test.YtbjcebnahllnjaaDoorEvZ
import Derived.Test.YtbjcebnahllnjaaDoorEvEnd
import Derived.Deep.DeepHandedRow
namespace Go.Proofs.YtbjcebnahllnjaaDoor
open Go.RowKit

set_option maxRecDepth 100000 in
set_option maxHeartbeats 8000000 in
theorem lazy_out (k t : Int) (nl : Bool) (lit : Dat) (lv col op : Int) (A sA : Option Addr) (m c sn sc : Nat) (dk di : Int) (ds : ByteArray) (rx ra : Bool) (ns : Nat) (hq : rx = false ∨ ns ≠ 0 ∨ ra = false ∨ dk = 0) (w : World)
    (HR : Hid (∀ w', Below w.heap.size w w' → Calls Tryd.prog 7 #[.agg #[.int .i64 k, .int .i64 t, .bool nl, .int .i64 lit.k, .int .i64 lit.i, .string lit.s, .int .i64 lv, .int .i64 col, .int .i64 op, .slice A m c, .slice sA sn sc], .slice none 0 0] w' (RightPost rx w')))
    (HS : Hid (rx = true → ∀ w', Below w.heap.size w w' → Calls Tryd.prog 8 #[.agg #[.int .i64 k, .int .i64 t, .bool nl, .int .i64 lit.k, .int .i64 lit.i, .string lit.s, .int .i64 lv, .int .i64 col, .int .i64 op, .slice A m c, .slice sA sn sc]] w' (fun e w2 => ∃ A c, e = .returned (.slice A ns c) ∧ Below w'.heap.size w' w2)))
    (H1 : Hid (∀ w', Calls Tryd.prog 9 #[.agg #[.int .i64 dk, .int .i64 di, .string ds]] w' (RightPost ra w'))) :
    Calls Tryd.prog 4 #[.agg #[.int .i64 k, .int .i64 t, .bool nl, .int .i64 lit.k, .int .i64 lit.i, .string lit.s, .int .i64 lv, .int .i64 col, .int .i64 op, .slice A m c, .slice sA sn sc], .agg #[.int .i64 dk, .int .i64 di, .string ds]] w fun e w' => e = .returned (.bool true) ∧ Below w.heap.size w w' := by
  have hb1 := (Below.refl w.heap.size w).alloc (Nat.le_refl _) (.cells #[.int .i64 k, .int .i64 t, .bool nl, .int .i64 lit.k, .int .i64 lit.i, .string lit.s, .int .i64 lv, .int .i64 col, .int .i64 op, .slice A m c, .slice sA sn sc] 27)
  have hb2 := hb1.alloc hb1.size (.cells #[.int .i64 dk, .int .i64 di, .string ds] 23)
  have bX := (Blk.new w #[.int .i64 k, .int .i64 t, .bool nl, .int .i64 lit.k, .int .i64 lit.i, .string lit.s, .int .i64 lv, .int .i64 col, .int .i64 op, .slice A m c, .slice sA sn sc] 27).alloc (.cells #[.int .i64 dk, .int .i64 di, .string ds] 23)
  have bD := Blk.new (w.alloc (.cells #[.int .i64 k, .int .i64 t, .bool nl, .int .i64 lit.k, .int .i64 lit.i, .string lit.s, .int .i64 lv, .int .i64 col, .int .i64 op, .slice A m c, .slice sA sn sc] 27)) #[.int .i64 dk, .int .i64 di, .string ds] 23
  rw [show (w.alloc (.cells #[.int .i64 k, .int .i64 t, .bool nl, .int .i64 lit.k, .int .i64 lit.i, .string lit.s, .int .i64 lv, .int .i64 col, .int .i64 op, .slice A m c, .slice sA sn sc] 27)).heap.size = w.heap.size + 1 by simp] at bD
  cases rx
  · clear hq
    go_enter Tryd.func4, Tryd.ntmps4
    go_wp2_with (go_at_call 7; (with_reducible refine (HR.out _ hb2).mono ?_); rintro e w3 ⟨rfl, hb3⟩; have h3 := hb2.trans (hb3.mono hb2.size); have bX3 := bX.below hb3; have bD3 := bD.below hb3; have y0 := bX3.cell 0; have y1 := bX3.cell 1; have y2 := bX3.cell 2; have y3 := bX3.cell 3; have y4 := bX3.cell 4; have y5 := bX3.cell 5; have y6 := bX3.cell 6; have y7 := bX3.cell 7; have y8 := bX3.cell 8; have y9 := bX3.cell 9; have y10 := bX3.cell 10; simp only [List.getElem?_toArray, List.getElem?_cons_zero, List.getElem?_cons_succ] at y0 y1 y2 y3 y4 y5 y6 y7 y8 y9 y10)
    go_ret
    exact ⟨rfl, h3⟩
  · have HS1 := Lib.hid (HS.out rfl)
    by_cases hn : ns = 0
    · subst hn
      cases ra
      · clear hq
        go_enter Tryd.func4, Tryd.ntmps4
        go_wp2_with (first
          | (go_at_call 7; (with_reducible refine (HR.out _ hb2).mono ?_); rintro e w3 ⟨rfl, hb3⟩; have h3 := hb2.trans (hb3.mono hb2.size); have bX3 := bX.below hb3; have bD3 := bD.below hb3; have y0 := bX3.cell 0; have y1 := bX3.cell 1; have y2 := bX3.cell 2; have y3 := bX3.cell 3; have y4 := bX3.cell 4; have y5 := bX3.cell 5; have y6 := bX3.cell 6; have y7 := bX3.cell 7; have y8 := bX3.cell 8; have y9 := bX3.cell 9; have y10 := bX3.cell 10; simp only [List.getElem?_toArray, List.getElem?_cons_zero, List.getElem?_cons_succ] at y0 y1 y2 y3 y4 y5 y6 y7 y8 y9 y10)
          | (go_at_call 8; (with_reducible refine (HS1.out _ h3).mono ?_); rintro e w4 ⟨A4, c4, rfl, hb4⟩; have h4 := h3.trans (hb4.mono h3.size); have bD4 := bD3.below hb4; have d0 := bD4.cell 0; have d1 := bD4.cell 1; have d2 := bD4.cell 2; simp only [List.getElem?_toArray, List.getElem?_cons_zero, List.getElem?_cons_succ] at d0 d1 d2)
          | (go_at_call 9; (with_reducible refine (H1.out _).mono ?_); rintro e w5 ⟨rfl, hb5⟩; have h5 := h4.trans (hb5.mono h4.size); have bD5 := bD4.below hb5; clear d0 d1 d2; have d0 := bD5.cell 0; simp only [List.getElem?_toArray, List.getElem?_cons_zero] at d0))
        go_ret
        exact ⟨rfl, h5⟩
      · have hd : dk = 0 := by
          rcases hq with h | h | h | h
          · cases h
          · exact absurd rfl h
          · cases h
          · exact h
        subst hd
        clear hq
        go_enter Tryd.func4, Tryd.ntmps4
        go_wp2_with (first
          | (go_at_call 7; (with_reducible refine (HR.out _ hb2).mono ?_); rintro e w3 ⟨rfl, hb3⟩; have h3 := hb2.trans (hb3.mono hb2.size); have bX3 := bX.below hb3; have bD3 := bD.below hb3; have y0 := bX3.cell 0; have y1 := bX3.cell 1; have y2 := bX3.cell 2; have y3 := bX3.cell 3; have y4 := bX3.cell 4; have y5 := bX3.cell 5; have y6 := bX3.cell 6; have y7 := bX3.cell 7; have y8 := bX3.cell 8; have y9 := bX3.cell 9; have y10 := bX3.cell 10; simp only [List.getElem?_toArray, List.getElem?_cons_zero, List.getElem?_cons_succ] at y0 y1 y2 y3 y4 y5 y6 y7 y8 y9 y10)
          | (go_at_call 8; (with_reducible refine (HS1.out _ h3).mono ?_); rintro e w4 ⟨A4, c4, rfl, hb4⟩; have h4 := h3.trans (hb4.mono h3.size); have bD4 := bD3.below hb4; have d0 := bD4.cell 0; have d1 := bD4.cell 1; have d2 := bD4.cell 2; simp only [List.getElem?_toArray, List.getElem?_cons_zero, List.getElem?_cons_succ] at d0 d1 d2)
          | (go_at_call 9; (with_reducible refine (H1.out _).mono ?_); rintro e w5 ⟨rfl, hb5⟩; have h5 := h4.trans (hb5.mono h4.size); have bD5 := bD4.below hb5; clear d0 d1 d2; have d0 := bD5.cell 0; simp only [List.getElem?_toArray, List.getElem?_cons_zero] at d0))
        go_ret
        exact ⟨rfl, h5⟩
    · have hne : ((ns : Int) != 0) = true := by simpa using hn
      clear hq hn
      go_enter Tryd.func4, Tryd.ntmps4
      go_wp2_with (first
        | (go_at_call 7; (with_reducible refine (HR.out _ hb2).mono ?_); rintro e w3 ⟨rfl, hb3⟩; have h3 := hb2.trans (hb3.mono hb2.size); have bX3 := bX.below hb3; have bD3 := bD.below hb3; have y0 := bX3.cell 0; have y1 := bX3.cell 1; have y2 := bX3.cell 2; have y3 := bX3.cell 3; have y4 := bX3.cell 4; have y5 := bX3.cell 5; have y6 := bX3.cell 6; have y7 := bX3.cell 7; have y8 := bX3.cell 8; have y9 := bX3.cell 9; have y10 := bX3.cell 10; simp only [List.getElem?_toArray, List.getElem?_cons_zero, List.getElem?_cons_succ] at y0 y1 y2 y3 y4 y5 y6 y7 y8 y9 y10)
        | (go_at_call 8; (with_reducible refine (HS1.out _ h3).mono ?_); rintro e w4 ⟨A4, c4, rfl, hb4⟩; have h4 := h3.trans (hb4.mono h3.size); have bD4 := bD3.below hb4; have d0 := bD4.cell 0; have d1 := bD4.cell 1; have d2 := bD4.cell 2; simp only [List.getElem?_toArray, List.getElem?_cons_zero, List.getElem?_cons_succ] at d0 d1 d2))
      go_ret
      exact ⟨rfl, h4⟩

def litE (d : Dat) : Ex := ⟨1, d.k, false, d, 0, 0, 0, .slice none 0 0, .slice none 0 0, []⟩
def callE (op : Int) (b n : Nat) (L : List Ex) : Ex := ⟨3, 0, false, nullD, 0, 0, op, .slice (some ⟨b, 0, none⟩) n n, .slice none 0 0, L⟩
theorem lit_ok (w : World) (d : Dat) : ExOk w (litE d) := ⟨_, .inl ⟨⟨none, rfl⟩, rfl⟩, ⟨_, _, _, rfl⟩, fun x hx => by cases hx⟩
theorem lit_b {d : Dat} (h : InI d) : ExB (litE d) := ⟨_, h, Nat.zero_le _, fun x hx => by cases hx⟩
theorem lit_val (d : Dat) (S : List Dat) : valX [] (litE d) S = (d, 0) := by rw [valX_eq]; exact if_pos rfl
theorem lit_right (d : Dat) : rightX [] (litE d) = rightD d := by rw [rightX_eq]; exact if_pos rfl
theorem lit_subs (d : Dat) : subsX (litE d) = [] := subsX_low (.inl rfl)
theorem valXs_nil2 : ∀ L : List Ex, valXs [] L [] = L.map fun x => valX [] x []
  | [] => by rw [valXs_nil]; rfl
  | e :: l => by rw [valXs_cons, List.take_nil, List.drop_nil, valXs_nil2 l]; rfl
theorem subsXs_none : ∀ L : List Ex, (∀ x ∈ L, subsX x = []) → subsXs L = []
  | [], _ => subsXs_nil
  | e :: l, h => by rw [subsXs_cons, h e (by simp), subsXs_none l fun x hx => h x (by simp [hx])]; rfl
theorem valE_list (w : World) (b : Nat) (L : List Ex) (h0 : L.length ≤ 1048576) (hb : Blk w b (L.flatMap encEx).toArray 27) : ExsV w (.slice (some ⟨b, 0, none⟩) L.length L.length) L := by
  refine .inr ⟨b, 0, L.length, rfl, by unfold maxLen; omega, hb.lt, ?_, Nat.le_refl _⟩
  intro i x hi r u hr
  have hr11 : r < 11 := by have := (List.getElem?_eq_some_iff.mp hr).1; rw [hkEx] at this; exact this
  rw [hb.cell, Nat.zero_add, List.getElem?_toArray, encs_at encEx 11 hkEx L i r x hi hr11]
  exact hr
theorem env_nil (w : World) : EnvV w (.slice none 0 0) [] := ⟨.inl ⟨⟨none, rfl⟩, rfl⟩, fun r hr => by cases hr⟩
theorem dat_nil (w : World) : DatV w (.slice none 0 0) [] := .inl ⟨⟨none, rfl⟩, rfl⟩

/-- A new call of expressions without subqueries is worth what the operator makes of their values. -/
theorem lazy_val (op : Int) (L : List Ex) (b : Nat) (w : World) (hB : Blk w b (L.flatMap encEx).toArray 27) (hL : L.length ≤ 3) (hok : ∀ x ∈ L, ExOk w x) (hEB : ∀ x ∈ L, ExB x) (hr : ∀ x ∈ L, rightX [] x = true) (hs : ∀ x ∈ L, subsX x = []) (hm : manyX op L.length = true) (hT : Tabs w) :
    Calls Tryd.prog 5 #[exVal (callE op b L.length L), .slice none 0 0, .slice none 0 0] w (ValPost (callX op (L.map fun x => valX [] x [])) w) := by
  have hsub : subsX (callE op b L.length L) = [] := by rw [subsX_mid rfl]; exact subsXs_none L hs
  have h1 := value_any (w := w) (e := callE op b L.length L) ⟨_, valE_list w b L (by omega) hB, ⟨_, _, _, rfl⟩, hok⟩ [] (.slice none 0 0) (env_nil w) (fun r hr => by cases hr) hT
    ⟨_, ⟨(by show (-9223372036854775808 : Int) ≤ 0; decide), (by show (0 : Int) ≤ 9223372036854775807; decide)⟩, (by show L.length ≤ 1048576; omega), hEB⟩ (by rw [hsub]; exact Nat.zero_le _) (.slice none 0 0) [] (dat_nil w) (fun d hd => by cases hd)
  have hright : rightX [] (callE op b L.length L) = true := by
    rw [rightX_eq, if_neg (by show ¬ (3 : Int) = 1; decide), if_neg (by show ¬ (3 : Int) = 2; decide), if_pos (show (callE op b L.length L).k = 3 from rfl), Bool.and_eq_true, rightXs_all, List.all_eq_true]
    exact ⟨hr, hm⟩
  have hv : valueX [] (callE op b L.length L) [] = callX op (L.map fun x => valX [] x []) := by
    unfold valueX
    rw [if_neg (by rw [hright, hsub]; simp), valX_eq, if_neg (by show ¬ (3 : Int) = 1; decide), if_neg (by show ¬ (3 : Int) = 2; decide), if_pos (show (callE op b L.length L).k = 3 from rfl)]
    show callX op (valXs [] L []) = _
    rw [valXs_nil2]
  rwa [hv] at h1

theorem callX_and (b : Va) : callX 13 [(⟨1, 0, noText⟩, 0), b] = (⟨1, 0, noText⟩, 0) := by
  unfold callX
  rw [if_neg (by decide), othX, if_neg (by simp), if_neg (fun h => absurd h.1 (by decide)), if_pos ⟨by rw [setX_13]; simp, rfl⟩]
theorem callX_or (b : Va) : callX 14 [(⟨1, 1, noText⟩, 0), b] = (⟨1, 1, noText⟩, 0) := by
  unfold callX
  rw [if_neg (by decide), othX, if_neg (by simp), if_neg (fun h => absurd h.1 (by decide)), if_pos ⟨by rw [setX_14]; simp, rfl⟩]
theorem callX_coal (d : Dat) (b : Va) (h : d.k ≠ 0) : callX 17 [(d, 0), b] = (d, 0) := by
  unfold callX
  rw [if_neg (by decide), othX, if_neg (by simp), if_pos ⟨rfl, h⟩]
theorem callX_case3 (b : Va) (d : Dat) : callX 16 [(⟨1, 0, noText⟩, 0), b, (d, 0)] = (d, 0) := by
  unfold callX
  rw [if_pos rfl, caseX, if_neg (by simp), if_neg (by decide), if_neg (by simp), caseX]
theorem callX_case1 (v : Va) (b : List Va) : callX 16 ((⟨1, 1, noText⟩, 0) :: v :: b) = v := by
  unfold callX
  rw [if_pos rfl, caseX, if_neg (by simp), if_neg (by decide), if_pos ⟨rfl, rfl⟩]
theorem callX_coal2 (b : Va) (d : Dat) (h : d.k ≠ 0) : (callX 17 [b, (d, 0)]).2 = b.2 := by
  unfold callX
  rw [if_neg (by decide), othX]
  by_cases hb : b.2 = 0
  · rw [if_neg (by simpa using hb)]
    by_cases hk : b.1.k = 0
    · rw [if_neg (fun h => h.2 hk), setX_other _ (by decide) (by decide), if_neg (fun h => absurd h.1 (by decide)), othX, if_neg (by simp), if_pos ⟨rfl, h⟩, hb]
    · rw [if_pos ⟨rfl, hk⟩, hb]
  · rw [if_pos hb]
    rfl
theorem callX_isnull (b : Va) (h : rightD b.1 = true) : (callX 15 [b]).2 = b.2 := by
  unfold callX
  rw [if_neg (by decide), othX]
  by_cases hb : b.2 = 0
  · rw [if_neg (by simpa using hb), if_neg (fun h => absurd h.1 (by decide)), setX_other _ (by decide) (by decide), if_neg (fun h => absurd h.1 (by decide)), othX, if_neg (by decide)]
    show (appR 15 [b.1]).2.2 = b.2
    rw [hb]
    unfold appR
    rw [if_neg (by rintro (h1 | h1 | h1); exact absurd h1 (by decide); exact h1 rfl; rw [List.all_cons, h] at h1; cases h1)]
    rfl
  · rw [if_pos hb]
    rfl
theorem va_eta (x : Va) (f : Int) (h : x.2 = f) : x = (⟨x.1.k, x.1.i, x.1.s⟩, f) := by
  obtain ⟨⟨k, i, s⟩, g⟩ := x
  subst h
  rfl

theorem lazy_any {w : World} {e : Ex} (h : ExOk w e) (hB : ExB e) (hl : (subsX e).length ≤ 1048576) (hT : Tabs w) (d : Dat) (hI : InI d) :
    Calls Tryd.prog 4 #[exVal e, datVal d] w fun e w' => e = .returned (.bool true) ∧ Below w.heap.size w w' := by
  have HR := fun w' (hb' : Below w.heap.size w w') => exRight_any h [] (.slice none 0 0) (env_nil w) w' hb'
  have HS := fun w' (hb' : Below w.heap.size w w') => subs_any h hl w' hb'
  have H1 := fun w' => refRight_any d.k d.i d.s w'
  have hd : (⟨d.k, d.i, d.s⟩ : Dat) = d := rfl
  rw [hd] at H1
  have hno : rightD ⟨1, 0, noText⟩ = true := rightT_bit false 0
  have hyes : rightD ⟨1, 1, noText⟩ = true := rightT_bit true 0
  obtain ⟨A, c, hkv, _, _⟩ := h.kv.slice
  obtain ⟨sA, sn, sc, hsv⟩ := h.sv
  by_cases hg : rightX [] e = true ∧ subsX e = [] ∧ rightD d = true ∧ d.k ≠ 0
  · obtain ⟨g1, g2, g3, g4⟩ := hg
    have HO := fun w' (hb' : Below w.heap.size w w') => exOf h [] (.slice none 0 0) (env_nil w) (fun r hr => by cases hr) hB g1 hl w' (.slice none 0 0) [] hb' (dat_nil w') (by rw [g2]; rfl) (fun d hd => by cases hd)
    have hvr : rightD (valX [] e []).1 = true := right_val hB g1 [] (fun d hd => by cases hd)
    have key : ∀ (op : Int) (L : List Ex), L.length ≤ 3 → (∀ x ∈ L, x = e ∨ ∃ d, x = litE d ∧ InI d ∧ rightD d = true) → manyX op L.length = true → ∀ w' b, Below w.heap.size w w' → Blk w' b (L.flatMap encEx).toArray 27 →
        Calls Tryd.prog 5 #[exVal (callE op b L.length L), .slice none 0 0, .slice none 0 0] w' (ValPost (callX op (L.map fun x => valX [] x [])) w') := by
      intro op L hL hx hm w' b hb' hblk
      refine lazy_val op L b w' hblk hL (fun x hx' => ?_) (fun x hx' => ?_) (fun x hx' => ?_) (fun x hx' => ?_) hm (hT.below hb')
      · rcases hx x hx' with rfl | ⟨d, rfl, _, _⟩
        · exact h.later hb'
        · exact lit_ok _ _
      · rcases hx x hx' with rfl | ⟨d, rfl, h1, _⟩
        · exact hB
        · exact lit_b h1
      · rcases hx x hx' with rfl | ⟨d, rfl, _, h1⟩
        · exact g1
        · rw [lit_right]; exact h1
      · rcases hx x hx' with rfl | ⟨d, rfl, _, _⟩
        · exact g2
        · exact lit_subs _
    have iN : InI ⟨1, 0, noText⟩ := ⟨by decide, by decide⟩
    have iY : InI ⟨1, 1, noText⟩ := ⟨by decide, by decide⟩
    have mem : ∀ (l : List Ex) x, x ∈ l → (∀ y ∈ l, y = e ∨ ∃ d, y = litE d ∧ InI d ∧ rightD d = true) → x = e ∨ ∃ d, x = litE d ∧ InI d ∧ rightD d = true := fun l x hx h => h x hx
    have pE : e = e ∨ ∃ d, e = litE d ∧ InI d ∧ rightD d = true := .inl rfl
    have pN : litE ⟨1, 0, noText⟩ = e ∨ ∃ d, litE ⟨1, 0, noText⟩ = litE d ∧ InI d ∧ rightD d = true := .inr ⟨_, rfl, iN, hno⟩
    have pY : litE ⟨1, 1, noText⟩ = e ∨ ∃ d, litE ⟨1, 1, noText⟩ = litE d ∧ InI d ∧ rightD d = true := .inr ⟨_, rfl, iY, hyes⟩
    have pD : litE d = e ∨ ∃ d', litE d = litE d' ∧ InI d' ∧ rightD d' = true := .inr ⟨_, rfl, hI, g3⟩
    have H5 := key 13 [litE ⟨1, 0, noText⟩, e] (by simp) (by intro x hx; simp only [List.mem_cons, List.not_mem_nil, or_false] at hx; rcases hx with h | h <;> rw [h] <;> first | exact pE | exact pN | exact pY | exact pD) (show manyX 13 2 = true by decide)
    have H6 := key 14 [litE ⟨1, 1, noText⟩, e] (by simp) (by intro x hx; simp only [List.mem_cons, List.not_mem_nil, or_false] at hx; rcases hx with h | h <;> rw [h] <;> first | exact pE | exact pN | exact pY | exact pD) (show manyX 14 2 = true by decide)
    have H7 := key 17 [litE d, e] (by simp) (by intro x hx; simp only [List.mem_cons, List.not_mem_nil, or_false] at hx; rcases hx with h | h <;> rw [h] <;> first | exact pE | exact pN | exact pY | exact pD) (show manyX 17 2 = true by decide)
    have H8 := key 16 [litE ⟨1, 0, noText⟩, e, litE d] (by simp) (by intro x hx; simp only [List.mem_cons, List.not_mem_nil, or_false] at hx; rcases hx with h | h | h <;> rw [h] <;> first | exact pE | exact pN | exact pY | exact pD) (show manyX 16 3 = true by decide)
    have H9 := key 16 [litE ⟨1, 1, noText⟩, litE d, e] (by simp) (by intro x hx; simp only [List.mem_cons, List.not_mem_nil, or_false] at hx; rcases hx with h | h | h <;> rw [h] <;> first | exact pE | exact pN | exact pY | exact pD) (show manyX 16 3 = true by decide)
    have H13 := key 17 [e, litE d] (by simp) (by intro x hx; simp only [List.mem_cons, List.not_mem_nil, or_false] at hx; rcases hx with h | h <;> rw [h] <;> first | exact pE | exact pN | exact pY | exact pD) (show manyX 17 2 = true by decide)
    have H14 := key 16 [litE ⟨1, 1, noText⟩, e] (by simp) (by intro x hx; simp only [List.mem_cons, List.not_mem_nil, or_false] at hx; rcases hx with h | h <;> rw [h] <;> first | exact pE | exact pN | exact pY | exact pD) (show manyX 16 2 = true by decide)
    have H15 := key 15 [e] (by simp) (by intro x hx; simp only [List.mem_cons, List.not_mem_nil, or_false] at hx; rw [hx]; exact pE) (show manyX 15 1 = true by decide)
    simp only [List.map_cons, List.map_nil, lit_val] at H5 H6 H7 H8 H9 H13 H14 H15
    simp only [callX_and] at H5
    simp only [callX_or] at H6
    simp only [callX_coal d _ g4] at H7
    simp only [callX_case3] at H8
    simp only [callX_case1] at H9 H14
    rw [va_eta _ _ (callX_coal2 (valX [] e []) d g4)] at H13
    rw [va_eta _ _ (callX_isnull (valX [] e []) hvr)] at H15
    rw [va_eta (valX [] e []) _ rfl] at H14 HO
    rw [g1] at HR
    rw [g3] at H1
    have HS2 : ∀ w', Below w.heap.size w w' → Calls Tryd.prog 8 #[exVal e] w' (fun e w2 => ∃ A c, e = .returned (.slice A 0 c) ∧ Below w'.heap.size w' w2) := fun w' hb' => (HS w' hb').mono (by
      rintro x w2 ⟨A, c, h1, _, h3⟩
      rw [g2] at h1
      exact ⟨A, c, h1, h3⟩)
    clear HS key mem pE pN pY pD h hB hl hT
    obtain ⟨dk, di, ds⟩ := d
    generalize hX13 : callX 17 [valX [] e [], (⟨dk, di, ds⟩, 0)] = X13 at H13
    generalize hX15 : callX 15 [valX [] e []] = X15 at H15
    generalize hX12 : valX [] e [] = X12 at H13 H14 H15 HO
    clear hX13 hX15 hX12 hvr g1 g2 hd
    obtain ⟨k, t, nl, lit, lv, col, op, kv, sv, kids⟩ := e
    simp only at hkv hsv
    subst hkv hsv
    exact lazy_raw k t nl lit lv col op A sA kids.length c sn sc dk di ds _ _ _ _ _ _ _ _ _ _ _ _ _ w HR HS2 H1 HO H5 H6 H7 H8 H9 H13 H14 H15 g4
  · have hq : rightX [] e = false ∨ (subsX e).length ≠ 0 ∨ rightD d = false ∨ d.k = 0 := by
      cases h1 : rightX [] e
      · exact .inl rfl
      · by_cases h2 : subsX e = []
        · cases h3 : rightD d
          · exact .inr (.inr (.inl rfl))
          · by_cases h4 : d.k = 0
            · exact .inr (.inr (.inr h4))
            · exact absurd ⟨h1, h2, h3, h4⟩ hg
        · exact .inr (.inl (fun h5 => h2 (List.eq_nil_of_length_eq_zero h5)))
    have HS2 : rightX [] e = true → ∀ w', Below w.heap.size w w' → Calls Tryd.prog 8 #[exVal e] w' (fun x w2 => ∃ A c, x = .returned (.slice A (subsX e).length c) ∧ Below w'.heap.size w' w2) := fun _ w' hb' => (HS w' hb').mono (by
      rintro x w2 ⟨A, c, h1, _, h3⟩
      exact ⟨A, c, h1, h3⟩)
    clear HS hg h hB hl hT hd hno hyes
    obtain ⟨dk, di, ds⟩ := d
    revert HR HS2 hq
    generalize rightX [] e = rx
    generalize (subsX e).length = ns
    intro HR HS2 hq
    obtain ⟨k, t, nl, lit, lv, col, op, kv, sv, kids⟩ := e
    simp only at hkv hsv
    subst hkv hsv
    exact lazy_out k t nl lit lv col op A sA kids.length c sn sc dk di ds rx _ ns hq w HR HS2 H1

end Go.Proofs.YtbjcebnahllnjaaDoor

namespace Go.Proofs.YtbjcebnahllnjaaDoor
open Go.ChangeShapes Go.WideShapes Go.ChangeAt Go.RowKit Go.Joins Go.Deep

theorem evalLazy_whole (os : Os) {H : Type} (enc : TypeId × Value → H) :
    DataW.whole enc Tryd.prog ((World.laidAll Tryd.prog os Rows.evalLazyUptoRow.laid).forCall (fun _ _ => 0) ⟨#[], #[.agg #[.int .i64 0, .int .i64 0, .bool false, .int .i64 0, .int .i64 0, .string ⟨#[]⟩, .int .i64 0, .int .i64 0, .int .i64 0, .slice none 0 0, .slice none 0 0], .agg #[.int .i64 0, .int .i64 0, .string ⟨#[]⟩]], []⟩).memory Tryd.f4.params.toList Rows.evalLazySpec.vars false #[.agg #[.int .i64 0, .int .i64 0, .bool false, .int .i64 0, .int .i64 0, .string ⟨#[]⟩, .int .i64 0, .int .i64 0, .int .i64 0, .slice none 0 0, .slice none 0 0], .agg #[.int .i64 0, .int .i64 0, .string ⟨#[]⟩]].toList 8 = some ([.agg [.lit (.int .i64 0), .lit (.int .i64 0), .lit (.bool false), .agg [.lit (.int .i64 0), .lit (.int .i64 0), .lit (.string [])], .lit (.int .i64 0), .lit (.int .i64 0), .lit (.int .i64 0), .nil, .nil], .agg [.lit (.int .i64 0), .lit (.int .i64 0), .lit (.string [])]], [], []) := by kernel_rfl

set_option linter.unusedVariables false in
set_option maxRecDepth 100000 in
theorem evalLazyUpto_lifted (os : Os) (started : os.Started) (H : Type) (enc : TypeId × Value → H) (F : Stop.Interp) :
    ReturnsInHanded {} Tryd.checked os 4 .any ((Rows.OpenSpec.upto Rows.evalLazySpec).preRow enc Tryd.prog Tryd.f4 Rows.evalLazyUptoRow.domain false Rows.evalLazyUptoRow.laid)
      (((Rows.OpenSpec.upto Rows.evalLazySpec).at F).post enc Tryd.prog Tryd.f4 false true false false) := by
  refine returnsInHanded_of_row (C := Tryd.checked) (s := Rows.OpenSpec.upto Rows.evalLazySpec) Tryd.own started (by kernel_rfl) Tryd.func4
    ⟨World.laidAll Tryd.prog os Rows.evalLazyUptoRow.laid, fun _ _ => 0, ⟨#[], #[.agg #[.int .i64 0, .int .i64 0, .bool false, .int .i64 0, .int .i64 0, .string ⟨#[]⟩, .int .i64 0, .int .i64 0, .int .i64 0, .slice none 0 0, .slice none 0 0], .agg #[.int .i64 0, .int .i64 0, .string ⟨#[]⟩]], []⟩, World.laidAll_os _ _ _, World.shaped_of_ZipB (by kernel_rfl) (by kernel_rfl),
      (Input.okWide_of_okWideB (P := Tryd.prog) (w := (World.laidAll Tryd.prog os Rows.evalLazyUptoRow.laid).forCall (fun _ _ => 0) ⟨#[], #[.agg #[.int .i64 0, .int .i64 0, .bool false, .int .i64 0, .int .i64 0, .string ⟨#[]⟩, .int .i64 0, .int .i64 0, .int .i64 0, .slice none 0 0, .slice none 0 0], .agg #[.int .i64 0, .int .i64 0, .string ⟨#[]⟩]], []⟩) (f := 4) (i := ⟨#[], #[.agg #[.int .i64 0, .int .i64 0, .bool false, .int .i64 0, .int .i64 0, .string ⟨#[]⟩, .int .i64 0, .int .i64 0, .int .i64 0, .slice none 0 0, .slice none 0 0], .agg #[.int .i64 0, .int .i64 0, .string ⟨#[]⟩]], []⟩) (base := 0) (by kernel_rfl)).1,
      (Input.okWide_of_okWideB (P := Tryd.prog) (w := (World.laidAll Tryd.prog os Rows.evalLazyUptoRow.laid).forCall (fun _ _ => 0) ⟨#[], #[.agg #[.int .i64 0, .int .i64 0, .bool false, .int .i64 0, .int .i64 0, .string ⟨#[]⟩, .int .i64 0, .int .i64 0, .int .i64 0, .slice none 0 0, .slice none 0 0], .agg #[.int .i64 0, .int .i64 0, .string ⟨#[]⟩]], []⟩) (f := 4) (i := ⟨#[], #[.agg #[.int .i64 0, .int .i64 0, .bool false, .int .i64 0, .int .i64 0, .string ⟨#[]⟩, .int .i64 0, .int .i64 0, .int .i64 0, .slice none 0 0, .slice none 0 0], .agg #[.int .i64 0, .int .i64 0, .string ⟨#[]⟩]], []⟩) (by kernel_rfl)).2,
      OpenSpec.preRow_of_cond 8 (evalLazy_whole os enc) (by kernel_rfl) (fun k hk => by cases hk; kernel_rfl) (by kernel_rfl) (by rw [MakeChecks.laidMetH_plain _ _ _ (by kernel_rfl)]; exact laidMet_laidAll _ (by kernel_rfl) (by kernel_rfl)),
      by simp only [Assume.holds]; refine ⟨?_, ?_, ?_, ?_, ?_⟩; all_goals first | (intro h; cases h; done) | (intro d h; cases h; done) | simp⟩ ?_
  intro W base args ds gs before hval0 hW _ hcond _ hL _ _
  have hk := hcond _ rfl
  have hL' : laidMet Tryd.prog Rows.evalLazyUptoRow.laid W := by rw [MakeChecks.laidMetH_plain _ _ _ (by kernel_rfl)] at hL; exact hL
  have hT : Tabs W := tabs_of (Lib.laidMet.reads hL' (List.Mem.tail _ (List.Mem.head _))) (Lib.laidMet.reads hL' (List.Mem.head _))
  have hval : ∀ (j : Nat) t v, Tryd.f4.params[j]? = some t → args[j]? = some v → Value.okWide Tryd.prog W .any base t v := hval0
  have hW' := hW
  obtain ⟨p, q, hA0, hV, rfl, _, _⟩ := hW
  have hA : DataW.TrodAll enc Tryd.prog W 0 (fun _ => true) true Tryd.f4.params.toList args.toList ds p := hA0
  rw [Tryd.params4] at hA hval
  obtain ⟨v0, v1, d0, d1, p0, p1, rfl, rfl, rfl, h0, h1⟩ := trodAll_two hA
  obtain ⟨rfl, rfl⟩ := trodVars_none hV
  have c0 := h0
  have lt0 : ∀ x ∈ p0, x.block < W.heap.size := by obtain ⟨m, hm⟩ := c0; exact DataW.trod_lt m _ _ _ hm
  have c1 := h1
  have lt1 : ∀ x ∈ p1, x.block < W.heap.size := by obtain ⟨m, hm⟩ := c1; exact DataW.trod_lt m _ _ _ hm
  obtain ⟨cs0, rfl, hsz0⟩ := okWide_struct Tryd.underlying27 (hval 0 27 v0 rfl rfl)
  obtain ⟨fu0, hf0⟩ := h0
  obtain ⟨e0, he0, hok0, hI0, hs0⟩ := open_ex fu0 _ _ hf0
  have hv0 : Value.agg cs0 = exVal e0 := by
    have h1 : cs0.toList = encEx e0 := he0
    show Value.agg cs0 = .agg (encEx e0).toArray
    rw [← h1]
  obtain ⟨cs1, rfl, hsz1⟩ := okWide_struct Tryd.underlying23 (hval 1 23 v1 rfl rfl)
  obtain ⟨fu1, hf1⟩ := h1
  obtain ⟨e1, he1, hI1⟩ := open_dat hf1
  have hv1 : Value.agg cs1 = datVal e1 := by
    have h1 : cs1.toList = encDat e1 := he1
    show Value.agg cs1 = .agg (encDat e1).toArray
    rw [← h1]
  have hb : Rows.uptoBulkAll [d0, d1] ≤ 1048576 := of_decide_eq_true hk
  simp only [Rows.uptoBulkAll] at hb
  simp only [List.append_nil] at hW'
  have hsz := subs_siz hok0
  simp only at hs0
  rw [hv0] at c0 hW' ⊢
  rw [hv1] at c1 hW' ⊢
  refine (lazy_any hok0 (hI0.small (by omega)) (by omega) hT e1 hI1).mono fun e W' ⟨he, bel⟩ => ?_
  subst he
  exact ⟨_, rfl, _, _, _, [], _, [], hW', trodAll_mk1 (shut_bool Tryd.underlying4 _), (trodAll_mk2 (Below.trod Tryd.laidOut (by kernel_rfl) (of_decide_eq_true (by kernel_rfl)) c0 bel lt0) (Below.trod Tryd.laidOut (by kernel_rfl) (of_decide_eq_true (by kernel_rfl)) c1 bel lt1)), rfl, bel.frame _, fun h => by cases h⟩

theorem evalLazyUpto_holds : Rows.EvalLazyUptoSaid :=
  OpenClaim.holds_of_cond 4 Tryd.f4 rfl rfl rfl rfl rfl rfl rfl ⟨rfl, rfl, rfl, rfl, rfl⟩ rfl rfl rfl rfl rfl (by kernel_rfl) Tryd.func4 (by kernel_rfl)
    (of_decide_eq_true (by kernel_rfl)) (by unfold Func.isWrapper; first | (rw [if_pos (by decide +kernel)]; kernel_rfl) | (rw [if_neg (by decide +kernel)]; exact ⟨rfl, rfl⟩))
    (fun os started H enc _ F => by rw [OpenClaim.pre_eq_preRow]; exact evalLazyUpto_lifted os started H enc F)

theorem evalLazyUpto_card_holds : Rows.EvalLazyUptoCardSaid :=
  Claim7.holds_tied_plain_at .later [] _ _ _ _ evalLazyUpto_holds (fun _ h => by cases h) (by kernel_rfl) (fun _ h => by cases h) evalLazyUpto_row_tie rfl ⟨rfl, rfl⟩ (by kernel_rfl) rfl
    (fun f fn hf hfn => by
      obtain rfl : f = 4 := Option.some.inj ((show Tryd.prog.funcNamed "freshet/freshetlaw07.EvalLazy" = some 4 by kernel_rfl).symm.trans hf) |>.symm
      obtain rfl : fn = Tryd.f4 := (Option.some.inj (Tryd.func4.symm.trans hfn)).symm
      exact ⟨by kernel_rfl, fun j t ht => by
        rw [Tryd.params4] at ht
        have hm : t ∈ [27, 23] := by simpa using Array.mem_of_getElem? ht
        have hall : ([27, 23].all fun u => !Tryd.prog.wantsStandIn u) = true := by kernel_rfl
        exact (show Tryd.prog.wantsStandIn t = false by simpa using List.all_eq_true.1 hall t hm)⟩)
    (by kernel_rfl)

#print axioms evalLazyUpto_card_holds
end Go.Proofs.YtbjcebnahllnjaaDoor
