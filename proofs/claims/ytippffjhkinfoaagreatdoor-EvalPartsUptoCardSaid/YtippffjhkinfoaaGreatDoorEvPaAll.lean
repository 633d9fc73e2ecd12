/-
  EvalParts: what a call makes of kids that all have a value, plainly.
  EvalParts: the law's walk.
  EvalParts: the law returns true.
  EvalParts, the second form: for every operator, expressions and rows that are together of bulk at most 1048576 the law returns true, and its arguments read as they did; the tables of unicode/utf8 that the row lists start as the program's text lays them (the card ties them).
-/
import Derived.Test.YtippffjhkinfoaaGreatDoorEvAll
import Derived.Test.YtippffjhkinfoaaGreatDoorEvEnd
import Derived.Test.YtippffjhkinfoaaGreatDoorExAll
import Derived.Deep.DeepHandedRow
namespace Go.Proofs.YtippffjhkinfoaaGreatDoor
open Go.RowKit

theorem many_app {op : Int} {n : Nat} (h16 : op ≠ 16) (h17 : op ≠ 17) : manyX op n = decide (0 < n ∧ (n : Int) = arityR op) := by
  unfold manyX; rw [if_neg h16, if_neg h17]
theorem app_few {op : Int} {V : List Dat} (h16 : op ≠ 16) (h17 : op ≠ 17) (h : manyX op V.length = false) : appR op V = (0, 0, 1) := by
  rw [many_app h16 h17, decide_eq_false_iff_not] at h
  unfold appR
  rw [if_pos]
  by_cases ha : arityR op = 0
  · exact .inl ha
  · exact .inr (.inl fun hl => h ⟨by omega, hl⟩)
theorem app_none (op : Int) : (appR op []).2.2 = 1 := by
  unfold appR
  rw [if_pos]
  by_cases ha : arityR op = 0
  · exact .inl ha
  · exact .inr (.inl fun hl => ha hl.symm)
theorem oth_all (op : Int) (h17 : op ≠ 17) : ∀ (V : List Dat) (n : Nat) (acc : List Dat), (n ≠ 0 ∨ setX op (V.headD nullD) = false) → othX op n acc (V.map fun d => (d, 0)) = triX (appR op (acc ++ V))
  | [], n, acc, _ => by rw [List.map_nil, othX, if_neg h17, List.append_nil]
  | x :: l, n, acc, h => by
    rw [List.map_cons, othX, if_neg (by simp), if_neg (fun h => h17 h.1), if_neg, oth_all op h17 l (n + 1) (acc ++ [x]) (.inl (by omega)), List.append_assoc]
    · rfl
    · rintro ⟨h1, h2⟩
      rcases h with h | h
      · exact h h2
      · rw [List.headD_cons] at h
        simp only at h1
        rw [h1] at h
        cases h
theorem set_true {op : Int} {d : Dat} (h : setX op d = true) : (op = 13 ∧ d = boolD 0) ∨ (op = 14 ∧ d = boolD 1) := by
  unfold setX at h
  rw [Bool.or_eq_true, decide_eq_true_iff, decide_eq_true_iff] at h
  obtain ⟨k, i, s⟩ := d
  rcases h with ⟨a, b, c, e⟩ | ⟨a, b, c, e⟩
  · left; simp only at b c e; subst b c e; exact ⟨a, rfl⟩
  · right; simp only at b c e; subst b c e; exact ⟨a, rfl⟩
theorem set_join (st : Int) (hs : st = 0 ∨ st = 1) (y : Dat) (hy : rightD y = true) (h : (joinR 1 st y.k y.i st).2.2 ≠ 5) : joinR 1 st y.k y.i st = (1, st, 0) := by
  have hb : rightD (boolD st) = true := by
    rcases hs with rfl | rfl
    · exact rightT_bit false 0
    · exact rightT_bit true 0
  have e := join_eq (a := boolD st) (b := y) hb hy st hs
  rw [show (boolD st).k = 1 from rfl, show (boolD st).i = st from rfl] at e
  rw [e] at h ⊢
  by_cases h1 : onlyR 1 1 [boolD st, y] = false
  · rw [if_pos h1] at h
    exact absurd rfl h
  · have h2 : hasR (boolD st) [boolD st, y] = true := by unfold hasR; simp
    rw [if_neg h1, if_pos h2]
    rcases hs with rfl | rfl <;> rfl
theorem set_app {op : Int} {x : Dat} {l : List Dat} (h : setX op x = true) (hr : ∀ d ∈ x :: l, rightD d = true) (hm : manyX op (x :: l).length = true) (h5 : (appR op (x :: l)).2.2 ≠ 5) : triX (appR op (x :: l)) = (x, 0) := by
  have hall : (x :: l).all rightD = true := List.all_eq_true.2 hr
  rcases set_true h with ⟨rfl, rfl⟩ | ⟨rfl, rfl⟩
  · rw [many_app (by decide) (by decide), decide_eq_true_iff] at hm
    have ha : arityR 13 = 2 := by decide
    match l, hr, hm, h5, hall with
    | [y], hr, hm, h5, hall =>
      have e : appR 13 [boolD 0, y] = joinR 1 0 y.k y.i 0 := by
        unfold appR
        rw [if_neg (by rintro (h1 | h1 | h1); exact absurd h1 (by decide); exact h1 ha.symm; rw [hall] at h1; cases h1)]
        rfl
      rw [e] at h5 ⊢
      rw [set_join 0 (.inl rfl) y (hr y (by simp)) h5]
      rfl
    | [], _, hm, _, _ => exact absurd hm.2 (by rw [ha]; decide)
    | _ :: _ :: _, _, hm, _, _ => have := hm.2; rw [ha] at this; simp only [List.length_cons] at this; omega
  · rw [many_app (by decide) (by decide), decide_eq_true_iff] at hm
    have ha : arityR 14 = 2 := by decide
    match l, hr, hm, h5, hall with
    | [y], hr, hm, h5, hall =>
      have e : appR 14 [boolD 1, y] = joinR 1 1 y.k y.i 1 := by
        unfold appR
        rw [if_neg (by rintro (h1 | h1 | h1); exact absurd h1 (by decide); exact h1 ha.symm; rw [hall] at h1; cases h1)]
        rfl
      rw [e] at h5 ⊢
      rw [set_join 1 (.inr rfl) y (hr y (by simp)) h5]
      rfl
    | [], _, hm, _, _ => exact absurd hm.2 (by rw [ha]; decide)
    | _ :: _ :: _, _, hm, _, _ => have := hm.2; rw [ha] at this; simp only [List.length_cons] at this; omega

/-- Value at a call of kids that are worth V. -/
def partsX (op : Int) (V : List Dat) : Va := if manyX op V.length = true then callX op (V.map fun d => (d, 0)) else nulX 1
theorem parts_pure (op : Int) (V : List Dat) (h16 : op ≠ 16) (h17 : op ≠ 17) (hr : ∀ d ∈ V, rightD d = true) :
    ((appR op V).2.2 = 5 → setX op (V.headD nullD) = true → partsX op V = (V.headD nullD, 0)) ∧ ((appR op V).2.2 ≠ 5 ∨ setX op (V.headD nullD) = false → partsX op V = triX (appR op V)) := by
  unfold partsX
  by_cases hm : manyX op V.length = true
  · rw [if_pos hm]
    unfold callX
    rw [if_neg h16]
    have hset : setX op (V.headD nullD) = true → othX op 0 [] (V.map fun d => (d, 0)) = (V.headD nullD, 0) := by
      intro hs
      cases V with
      | nil => exact absurd hm (by rw [many_app h16 h17]; simp)
      | cons x l =>
        rw [List.headD_cons] at hs ⊢
        rw [List.map_cons, othX, if_neg (by simp), if_neg (fun h => h17 h.1), if_pos ⟨hs, rfl⟩]
    refine ⟨fun _ hs => hset hs, ?_⟩
    intro h
    cases hs : setX op (V.headD nullD)
    · rw [oth_all op h17 V 0 [] (.inr hs), List.nil_append]
    · rcases h with h | h
      · rw [hset hs]
        cases V with
        | nil => exact absurd hm (by rw [many_app h16 h17]; simp)
        | cons x l => exact (set_app hs hr hm h).symm
      · rw [hs] at h; cases h
  · rw [if_neg hm]
    have e := app_few (V := V) h16 h17 (by simpa using hm)
    rw [e]
    refine ⟨fun h => absurd h (by decide), fun _ => rfl⟩
theorem run_eq_dat (k i : Int) (s : ByteArray) (w : World) :
    (binOp .eql 27 (.agg #[.int .i64 k, .int .i64 i, .string s]) (.agg #[.int .i64 k, .int .i64 i, .string s])).run Tryz.prog w = .ok (.bool true) w := by
  rw [run_eq_datum]
  simp

end Go.Proofs.YtippffjhkinfoaaGreatDoor

namespace Go.Proofs.YtippffjhkinfoaaGreatDoor
open Go.RowKit

set_option maxRecDepth 100000 in
set_option maxHeartbeats 8000000 in
theorem parts_call (op : Int) (A : Option Addr) (n c : Nat) (w : World) : Calls Tryz.prog 10 #[.int .i64 op, .slice A n c] w fun e w' => e = .returned (.agg #[.int .i64 3, .int .i64 0, .bool false, .int .i64 0, .int .i64 0, .string noText, .int .i64 0, .int .i64 0, .int .i64 op, .slice A n c, .slice none 0 0]) ∧ Below w.heap.size w w' := by
  go_enter Tryz.func10, Tryz.ntmps10
  go_wp2_with fail
  have bX := Blk.new w #[.int .i64 3, .int .i64 0, .bool false, .int .i64 0, .int .i64 0, .string noText, .int .i64 0, .int .i64 0, .int .i64 op, .slice A n c, .slice none 0 0] 30
  have y0 := bX.cell 0; have y1 := bX.cell 1; have y2 := bX.cell 2; have y3 := bX.cell 3; have y4 := bX.cell 4; have y5 := bX.cell 5; have y6 := bX.cell 6; have y7 := bX.cell 7; have y8 := bX.cell 8; have y9 := bX.cell 9; have y10 := bX.cell 10; simp only [List.getElem?_toArray, List.getElem?_cons_zero, List.getElem?_cons_succ] at y0 y1 y2 y3 y4 y5 y6 y7 y8 y9 y10
  refine bodyPost_ret ?_ rfl ⟨rfl, (Below.refl _ _).alloc (Nat.le_refl _) _⟩
  simp [results, Tryz.results10, go_sem, y0, y1, y2, y3, y4, y5, y6, y7, y8, y9, y10]

/-- What the calls behind the loop say. -/
structure PartsEnd (op : Int) (vl vE : Value) (w : World) (V : List Dat) : Prop where
  app : ∀ v w', Below w.heap.size w w' → DatV w' v V → Calls Tryz.prog 9 #[.int .i64 op, v] w' (ResT (appR op V) w')
  val : ∀ w', Below w.heap.size w w' → Calls Tryz.prog 8 #[(.agg #[.int .i64 3, .int .i64 0, .bool false, .int .i64 0, .int .i64 0, .string noText, .int .i64 0, .int .i64 0, .int .i64 op, vl, .slice none 0 0]), vE, .slice none 0 0] w' (ValPost (partsX op V) w')
  set : (appR op V).2.2 = 5 → setX op (V.headD nullD) = true → partsX op V = (V.headD nullD, 0)
  oth : (appR op V).2.2 ≠ 5 ∨ setX op (V.headD nullD) = false → partsX op V = triX (appR op V)

set_option maxRecDepth 100000 in
set_option maxHeartbeats 8000000 in
theorem parts_raw (op : Int) (L : List Ex) (vl vE : Value) (hvE : SliceV vE) (R : Ex → Bool) (N : Ex → Nat) (F : Ex → Va) (w : World) (hv : ExsV w vl L) (hx : ∀ x ∈ L, SliceV x.kv ∧ SliceV x.sv) (h4 : L.length ≤ 4) (h16 : op ≠ 16) (h17 : op ≠ 17)
    (HR : Hid (∀ x ∈ L, ∀ w', Below w.heap.size w w' → Calls Tryz.prog 6 #[exVal x, vE] w' (RightPost (R x) w')))
    (HS : Hid (∀ x ∈ L, ∀ w', Below w.heap.size w w' → Calls Tryz.prog 7 #[exVal x] w' (fun e w2 => ∃ A c, e = .returned (.slice A (N x) c) ∧ Below w'.heap.size w' w2)))
    (HV : Hid (∀ x ∈ L, ∀ w', Below w.heap.size w w' → Calls Tryz.prog 8 #[exVal x, vE, .slice none 0 0] w' (ValPost (F x) w')))
    (HE : Hid ((∀ x ∈ L, R x = true ∧ N x = 0 ∧ (F x).2 = 0) → PartsEnd op vl vE w (L.map fun x => (F x).1))) :
    Calls Tryz.prog 3 #[.int .i64 op, vl, vE] w (TrueB w) := by
  obtain ⟨Ae, ne, ce, rfl⟩ := hvE
  obtain ⟨A0, c0, rfl, hc0, hm0⟩ := hv.slice
  unfold maxLen at hm0
  have HL := Lib.hid hv
  have HX := Lib.hid hx
  obtain ⟨i0, hi, hz0, hz1, hz2⟩ := info_parts infoDat
  have HI := Lib.hid hi
  have HZ0 := Lib.hid hz0
  have HZ1 := Lib.hid hz1
  have HZ2 := Lib.hid hz2
  clear hi hz0 hz1 hz2 hv hx
  have e16 : (op == 16) = false := beq_eq_false_iff_ne.2 h16
  have e17 : (op == 17) = false := beq_eq_false_iff_ne.2 h17
  have e4 : decide ((4 : Int) < (L.length : Int)) = false := decide_eq_false (by omega)
  go_enter Tryz.func3, Tryz.ntmps3
  go_wp2_with (go_at_call 5; (with_reducible refine (alive_any _).mono ?_); rintro e w1 ⟨rfl, hb1⟩)
  go_loopw [7, 31] (fun s i wr => ∃ j : Nat, i = .int .i64 j ∧ j ≤ L.length ∧ Hid (∀ x ∈ L.take j, R x = true ∧ N x = 0 ∧ (F x).2 = 0) ∧ Below w.heap.size w wr ∧ Hid (OwnD wr w.heap.size s ((L.take j).map fun x => (F x).1))) (fun _ i _ => L.length - (intOf i).toNat)
  case atStart => exact ⟨0, rfl, Nat.zero_le _, (by intro x hx; simp at hx), hb1, Lib.hid (OwnG.nil _ _ _)⟩
  case round =>
    clear hb1
    obtain ⟨j, rfl, hj, HG, hb, HO⟩ := hrel
    by_cases hlt : j < L.length
    · rcases HL.out with ⟨_, h0⟩ | ⟨b, off, c', e, _, hbl, hat, _⟩
      · rw [h0] at hlt; simp at hlt
      · injection e with e1 e2 e3
        subst e1 e3
        obtain ⟨x0, x1, x2, x3, x4, x5, x6, x7, x8, x9, x10⟩ := (hat.block (hb.block b hbl)).ex j hlt
        have hmem := List.getElem_mem hlt
        have HR1 := HR.out L[j] hmem
        have HS1 := HS.out L[j] hmem
        have HV1 := HV.out L[j] hmem
        obtain ⟨⟨Ak, nk, ck, hkv⟩, ⟨As, ns, cs, hsv⟩⟩ := HX.out L[j] hmem
        have hj9 : (j : Int) + 1 ≤ 9223372036854775807 := by omega
        have hlt' : (j : Int) < L.length := by omega
        have HG2 : Hid ((R L[j] = true ∧ N L[j] = 0 ∧ (F L[j]).2 = 0) → ∀ x ∈ L.take (j + 1), R x = true ∧ N x = 0 ∧ (F x).2 = 0) := by
          intro h x hx
          rw [List.take_add_one, List.getElem?_eq_getElem hlt, Option.toList_some] at hx
          rcases List.mem_append.1 hx with hx | hx
          · exact HG.out x hx
          · rw [List.mem_singleton] at hx; rw [hx]; exact h
        have HT : Hid (((L.take (j + 1)).map fun x => (F x).1) = ((L.take j).map fun x => (F x).1) ++ [(F L[j]).1]) := by
          unfold Hid
          rw [List.take_add_one, List.getElem?_eq_getElem hlt, Option.toList_some, List.map_append, List.map_cons, List.map_nil]
        have hP4 : ((L.take j).map fun x => (F x).1).length ≤ 4 := by rw [List.length_map, List.length_take]; omega
        clear hat hmem HG hj e16 e17 e4
        revert HG2 HT HR1 HS1 HV1 hkv hsv x0 x1 x2 x3 x4 x5 x6 x7 x8 x9 x10
        generalize R L[j] = r
        generalize N L[j] = nn
        generalize F L[j] = f
        generalize L[j] = x
        obtain ⟨k, t, nl, ⟨lk, li, ls⟩, lv, col, xo, kv, sv, kids⟩ := x
        obtain ⟨⟨dk, di, ds⟩, df⟩ := f
        intro x0 x1 x2 x3 x4 x5 x6 x7 x8 x9 x10 HR1 HS1 HV1 hkv hsv HG2 HT
        simp only at hkv hsv
        subst hkv hsv
        simp only [exVal] at HR1 HS1 HV1
        have HRx := Lib.hid HR1
        have HSx := Lib.hid HS1
        have HVx := Lib.hid HV1
        clear HR1 HS1 HV1
        have bX := Blk.new wr #[.int .i64 k, .int .i64 t, .bool nl, .int .i64 lk, .int .i64 li, .string ls, .int .i64 lv, .int .i64 col, .int .i64 xo, .slice Ak nk ck, .slice As ns cs] 30
        have qo := (Below.refl wr.heap.size wr).alloc (Nat.le_refl _) (.cells #[.int .i64 k, .int .i64 t, .bool nl, .int .i64 lk, .int .i64 li, .string ls, .int .i64 lv, .int .i64 col, .int .i64 xo, .slice Ak nk ck, .slice As ns cs] 30)
        have hbo := hb.trans (qo.mono hb.size)
        revert HT HO hP4
        generalize ((L.take j).map fun x => (F x).1) = P
        intro HO hP4 HT
        cases r
        · clear HG2 HT HSx HVx HO
          go_wp2_with (go_at_call 6; (with_reducible refine (HRx.out _ hbo).mono ?_); rintro e w5 ⟨rfl, hb5⟩; have q5 := qo.trans (hb5.mono qo.size); have h5 := hb.trans (q5.mono hb.size); have bX5 := bX.below hb5; have y0 := bX5.cell 0; have y1 := bX5.cell 1; have y2 := bX5.cell 2; have y3 := bX5.cell 3; have y4 := bX5.cell 4; have y5 := bX5.cell 5; have y6 := bX5.cell 6; have y7 := bX5.cell 7; have y8 := bX5.cell 8; have y9 := bX5.cell 9; have y10 := bX5.cell 10; simp only [List.getElem?_toArray, List.getElem?_cons_zero, List.getElem?_cons_succ] at y0 y1 y2 y3 y4 y5 y6 y7 y8 y9 y10)
          go_ret
          exact ⟨rfl, h5⟩
        · by_cases hn : nn = 0
          · subst hn
            by_cases hf : df = 0
            · subst hf
              have HG3 := Lib.hid (HG2.out ⟨rfl, rfl, rfl⟩)
              clear HG2
              go_wp2_with (first
                | (go_at_call 6; (with_reducible refine (HRx.out _ hbo).mono ?_); rintro e w5 ⟨rfl, hb5⟩; have q5 := qo.trans (hb5.mono qo.size); have h5 := hb.trans (q5.mono hb.size); have bX5 := bX.below hb5; have y0 := bX5.cell 0; have y1 := bX5.cell 1; have y2 := bX5.cell 2; have y3 := bX5.cell 3; have y4 := bX5.cell 4; have y5 := bX5.cell 5; have y6 := bX5.cell 6; have y7 := bX5.cell 7; have y8 := bX5.cell 8; have y9 := bX5.cell 9; have y10 := bX5.cell 10; simp only [List.getElem?_toArray, List.getElem?_cons_zero, List.getElem?_cons_succ] at y0 y1 y2 y3 y4 y5 y6 y7 y8 y9 y10)
                | (go_at_call 7; (with_reducible refine (HSx.out _ h5).mono ?_); rintro e w6 ⟨A6, c6, rfl, hb6⟩; have q6 := q5.trans (hb6.mono q5.size); have h6 := hb.trans (q6.mono hb.size); have bX6 := bX5.below hb6; clear y0 y1 y2 y3 y4 y5 y6 y7 y8 y9 y10; have y0 := bX6.cell 0; have y1 := bX6.cell 1; have y2 := bX6.cell 2; have y3 := bX6.cell 3; have y4 := bX6.cell 4; have y5 := bX6.cell 5; have y6 := bX6.cell 6; have y7 := bX6.cell 7; have y8 := bX6.cell 8; have y9 := bX6.cell 9; have y10 := bX6.cell 10; simp only [List.getElem?_toArray, List.getElem?_cons_zero, List.getElem?_cons_succ] at y0 y1 y2 y3 y4 y5 y6 y7 y8 y9 y10)
                | (go_at_call 8; (with_reducible refine (HVx.out _ h6).mono ?_); rintro e w7 ⟨rfl, hb7⟩; have q7 := q6.trans (hb7.mono q6.size); have q8 := q7.alloc q7.size (.cells #[.int .i64 dk, .int .i64 di, .string ds] 27); have h8 := hb.trans (q8.mono hb.size); have q9 := q8.alloc q8.size (.cells #[.int .i64 dk, .int .i64 di, .string ds] 27); have h9 := hb.trans (q9.mono hb.size); have HO9 := Lib.hid (HO.out.below q9); have HV9 := Lib.hid (valD_one (w7.alloc (.cells #[.int .i64 dk, .int .i64 di, .string ds] 27)) (w7.heap.size + 1) dk di ds (by simp)); have hz9 := h9.size)
                | (at_builtin; refine wpList_append_g hkDat (by decide) 25 27 i0 _ 32 Tryz.underlying25 HI.out HZ0.out HZ1.out HZ2.out rfl _ rfl _ _ rfl w.heap.size _ _ P [⟨dk, di, ds⟩] rfl rfl HO9.out HV9.out (one_dat _) (by unfold maxLen; simp only [List.length_cons, List.length_nil]; omega) (by simp only [List.length_cons, List.length_nil]; omega) hz9 ?_; intro v8 w8 ho8 hg8))
              have hgr := OwnG.grown HO9.out hz9 hg8
              refine ⟨⟨j + 1, by go_num, hlt, HG3, h9.trans hgr, by rw [HT.out]; exact Lib.hid ho8⟩, ?_⟩
              simp only [intOf]
              omega
            · have hf' : (df != 0) = true := by simpa using hf
              clear HG2 HT hf
              go_wp2_with (first
                | (go_at_call 6; (with_reducible refine (HRx.out _ hbo).mono ?_); rintro e w5 ⟨rfl, hb5⟩; have q5 := qo.trans (hb5.mono qo.size); have h5 := hb.trans (q5.mono hb.size); have bX5 := bX.below hb5; have y0 := bX5.cell 0; have y1 := bX5.cell 1; have y2 := bX5.cell 2; have y3 := bX5.cell 3; have y4 := bX5.cell 4; have y5 := bX5.cell 5; have y6 := bX5.cell 6; have y7 := bX5.cell 7; have y8 := bX5.cell 8; have y9 := bX5.cell 9; have y10 := bX5.cell 10; simp only [List.getElem?_toArray, List.getElem?_cons_zero, List.getElem?_cons_succ] at y0 y1 y2 y3 y4 y5 y6 y7 y8 y9 y10)
                | (go_at_call 7; (with_reducible refine (HSx.out _ h5).mono ?_); rintro e w6 ⟨A6, c6, rfl, hb6⟩; have q6 := q5.trans (hb6.mono q5.size); have h6 := hb.trans (q6.mono hb.size); have bX6 := bX5.below hb6; clear y0 y1 y2 y3 y4 y5 y6 y7 y8 y9 y10; have y0 := bX6.cell 0; have y1 := bX6.cell 1; have y2 := bX6.cell 2; have y3 := bX6.cell 3; have y4 := bX6.cell 4; have y5 := bX6.cell 5; have y6 := bX6.cell 6; have y7 := bX6.cell 7; have y8 := bX6.cell 8; have y9 := bX6.cell 9; have y10 := bX6.cell 10; simp only [List.getElem?_toArray, List.getElem?_cons_zero, List.getElem?_cons_succ] at y0 y1 y2 y3 y4 y5 y6 y7 y8 y9 y10)
                | (go_at_call 8; (with_reducible refine (HVx.out _ h6).mono ?_); rintro e w7 ⟨rfl, hb7⟩; have q7 := q6.trans (hb7.mono q6.size); have q8 := q7.alloc q7.size (.cells #[.int .i64 dk, .int .i64 di, .string ds] 27); have h8 := hb.trans (q8.mono hb.size); have q9 := q8.alloc q8.size (.cells #[.int .i64 dk, .int .i64 di, .string ds] 27); have h9 := hb.trans (q9.mono hb.size); have HO9 := Lib.hid (HO.out.below q9); have HV9 := Lib.hid (valD_one (w7.alloc (.cells #[.int .i64 dk, .int .i64 di, .string ds] 27)) (w7.heap.size + 1) dk di ds (by simp)); have hz9 := h9.size))
              go_ret
              exact ⟨rfl, h8⟩
          · have hne : ((nn : Int) != 0) = true := by simpa using hn
            clear HG2 HT hn HVx HO
            go_wp2_with (first
              | (go_at_call 6; (with_reducible refine (HRx.out _ hbo).mono ?_); rintro e w5 ⟨rfl, hb5⟩; have q5 := qo.trans (hb5.mono qo.size); have h5 := hb.trans (q5.mono hb.size); have bX5 := bX.below hb5; have y0 := bX5.cell 0; have y1 := bX5.cell 1; have y2 := bX5.cell 2; have y3 := bX5.cell 3; have y4 := bX5.cell 4; have y5 := bX5.cell 5; have y6 := bX5.cell 6; have y7 := bX5.cell 7; have y8 := bX5.cell 8; have y9 := bX5.cell 9; have y10 := bX5.cell 10; simp only [List.getElem?_toArray, List.getElem?_cons_zero, List.getElem?_cons_succ] at y0 y1 y2 y3 y4 y5 y6 y7 y8 y9 y10)
              | (go_at_call 7; (with_reducible refine (HSx.out _ h5).mono ?_); rintro e w6 ⟨A6, c6, rfl, hb6⟩; have q6 := q5.trans (hb6.mono q5.size); have h6 := hb.trans (q6.mono hb.size); have bX6 := bX5.below hb6; clear y0 y1 y2 y3 y4 y5 y6 y7 y8 y9 y10; have y0 := bX6.cell 0; have y1 := bX6.cell 1; have y2 := bX6.cell 2; have y3 := bX6.cell 3; have y4 := bX6.cell 4; have y5 := bX6.cell 5; have y6 := bX6.cell 6; have y7 := bX6.cell 7; have y8 := bX6.cell 8; have y9 := bX6.cell 9; have y10 := bX6.cell 10; simp only [List.getElem?_toArray, List.getElem?_cons_zero, List.getElem?_cons_succ] at y0 y1 y2 y3 y4 y5 y6 y7 y8 y9 y10))
            go_ret
            exact ⟨rfl, h6⟩
    · have hlt' : decide ((j : Int) < (L.length : Int)) = false := decide_eq_false (by omega)
      obtain rfl : j = L.length := by omega
      rw [List.take_of_length_le (Nat.le_refl _)] at HG HO
      have HP := HE.out HG.out
      have HD := Lib.hid (OwnG.val hkDat HO.out).weak
      have hVl : (L.map fun x => (F x).1).length = L.length := List.length_map _
      clear HR HS HV HE HG HO HX HI HZ0 HZ1 HZ2 e16 e17 e4 h16 h17 hj
      revert HP HD hVl
      generalize (L.map fun x => (F x).1) = V
      intro HP HD hVl
      have hset := Lib.hid HP.set
      have hoth := Lib.hid HP.oth
      have HApp := Lib.hid HP.app
      have HVal := Lib.hid HP.val
      have hne : (appR op V).2.2 = 5 → V ≠ [] := by
        intro h he
        rw [he, app_none] at h
        exact absurd h (by decide)
      clear HP
      revert hset hoth HApp HVal hne
      generalize appR op V = tri
      generalize partsX op V = G
      obtain ⟨tk, ti, tf⟩ := tri
      obtain ⟨⟨gk, gi, gs⟩, gf⟩ := G
      intro hset hoth HApp HVal hne
      unfold ResT ResPost at HApp
      unfold ValPost datVal at HVal
      by_cases h5 : tf = 5
      · subst h5
        have hV := hne rfl
        obtain ⟨v0, Vr, rfl⟩ : ∃ v0 Vr, V = v0 :: Vr := by
          cases V with
          | nil => exact absurd rfl hV
          | cons a l => exact ⟨a, l, rfl⟩
        clear hne hV
        rw [List.headD_cons] at hset hoth
        rcases HD.out with ⟨_, h0⟩ | ⟨b, off, c', e, _, hbl, hat, _⟩
        · cases h0
        · obtain ⟨vk, vi, vs⟩ := v0
          obtain ⟨m, hm⟩ : ∃ m, m = ((⟨vk, vi, vs⟩ : Dat) :: Vr).length := ⟨_, rfl⟩
          rw [← hm] at e
          subst e
          have h0m : 0 < m := by rw [hm]; simp
          have h0i : (0 : Int) < (m : Int) := by omega
          clear hm hVl
          cases hs : setX op ⟨vk, vi, vs⟩
          · have hG := hoth.out (.inr hs)
            unfold triX at hG
            injection hG with hG1 hG2
            injection hG1 with hG3 hG4 hG5
            subst hG2 hG3 hG4 hG5
            have hE := fun w => run_eq_dat gk gi noText w
            clear hset hoth
            by_cases h13 : op = 13
            · subst h13
              rw [setX_13] at hs
              have hE2 := fun w => run_eq_datum vk vi vs 1 0 noText w
              simp only [hs] at hE2
              clear hs
              go_wp2_with (first
                | (go_at_call 9; (with_reducible refine (HApp.out _ _ hb HD.out).mono ?_); rintro e w5 ⟨rfl, hb5⟩; have q5 := (Below.refl wr.heap.size wr).trans hb5; have q6 := q5.alloc q5.size (.cells #[.int .i64 gk, .int .i64 gi, .string noText] 27); have h6 := hb.trans (q6.mono hb.size); have bT := Blk.new w5 #[.int .i64 gk, .int .i64 gi, .string noText] 27)
                | (go_at_call 10; (with_reducible refine (parts_call 13 _ _ _ _).mono ?_); rintro e w7 ⟨rfl, hb7⟩; have q7 := q6.trans (hb7.mono q6.size); have h7 := hb.trans (q7.mono hb.size); have bT7 := bT.below hb7)
                | (go_at_call 8; (with_reducible refine (HVal.out _ h7).mono ?_); rintro e w8 ⟨rfl, hb8⟩; have q8 := q7.trans (hb8.mono q7.size); have q9 := q8.alloc q8.size (.cells #[.int .i64 gk, .int .i64 gi, .string noText] 27); have h9 := hb.trans (q9.mono hb.size); have bT9 := (bT7.below hb8).alloc (.cells #[.int .i64 gk, .int .i64 gi, .string noText] 27); have bG := Blk.new w8 #[.int .i64 gk, .int .i64 gi, .string noText] 27; have hat9 := hat.block (q9.block b hbl); have d0 := hat9 0 _ rfl 0 _ rfl; have d1 := hat9 0 _ rfl 1 _ rfl; have d2 := hat9 0 _ rfl 2 _ rfl; simp only [Nat.zero_mul, Nat.add_zero] at d0 d1 d2; have k0 := fun n : Kept (w8.alloc (.cells #[.int .i64 gk, .int .i64 gi, .string noText] 27)) => n.cell d0; have k1 := fun n : Kept (w8.alloc (.cells #[.int .i64 gk, .int .i64 gi, .string noText] 27)) => n.cell d1; have k2 := fun n : Kept (w8.alloc (.cells #[.int .i64 gk, .int .i64 gi, .string noText] 27)) => n.cell d2))
              refine wp_region_kept (by kernel_rfl) (by kernel_rfl) ?_
              repeat (go_big_quiet_step ((first | (go_at_call 11; (with_reducible exact Calls.kept (refBool_f _))) | (go_at_call 11; (with_reducible exact Calls.kept (refBool_t _))))))
              refine wpQuiet_nil ?_
              intro wk hw'
              obtain ⟨⟨wq, hwq⟩, hw''⟩ := hw'
              simp only at hw''
              subst hw''
              have hk := h9.trans (hwq.mono h9.size)
              have bT1 := bT9.below hwq
              have bG1 := bG.below hwq
              have t0 := bT1.cell 0; have t1 := bT1.cell 1; have t2 := bT1.cell 2; simp only [List.getElem?_toArray, List.getElem?_cons_zero, List.getElem?_cons_succ] at t0 t1 t2
              have g0 := bG1.cell 0; have g1 := bG1.cell 1; have g2 := bG1.cell 2; simp only [List.getElem?_toArray, List.getElem?_cons_zero, List.getElem?_cons_succ] at g0 g1 g2
              go_wp2_with fail
              go_ret
              exact ⟨rfl, hk⟩
            · by_cases h14 : op = 14
              · subst h14
                rw [setX_14] at hs
                have hE2 := fun w => run_eq_datum vk vi vs 1 1 noText w
                simp only [hs] at hE2
                clear hs h13
                go_wp2_with (first
                  | (go_at_call 9; (with_reducible refine (HApp.out _ _ hb HD.out).mono ?_); rintro e w5 ⟨rfl, hb5⟩; have q5 := (Below.refl wr.heap.size wr).trans hb5; have q6 := q5.alloc q5.size (.cells #[.int .i64 gk, .int .i64 gi, .string noText] 27); have h6 := hb.trans (q6.mono hb.size); have bT := Blk.new w5 #[.int .i64 gk, .int .i64 gi, .string noText] 27)
                  | (go_at_call 10; (with_reducible refine (parts_call 14 _ _ _ _).mono ?_); rintro e w7 ⟨rfl, hb7⟩; have q7 := q6.trans (hb7.mono q6.size); have h7 := hb.trans (q7.mono hb.size); have bT7 := bT.below hb7)
                  | (go_at_call 8; (with_reducible refine (HVal.out _ h7).mono ?_); rintro e w8 ⟨rfl, hb8⟩; have q8 := q7.trans (hb8.mono q7.size); have q9 := q8.alloc q8.size (.cells #[.int .i64 gk, .int .i64 gi, .string noText] 27); have h9 := hb.trans (q9.mono hb.size); have bT9 := (bT7.below hb8).alloc (.cells #[.int .i64 gk, .int .i64 gi, .string noText] 27); have bG := Blk.new w8 #[.int .i64 gk, .int .i64 gi, .string noText] 27; have hat9 := hat.block (q9.block b hbl); have d0 := hat9 0 _ rfl 0 _ rfl; have d1 := hat9 0 _ rfl 1 _ rfl; have d2 := hat9 0 _ rfl 2 _ rfl; simp only [Nat.zero_mul, Nat.add_zero] at d0 d1 d2; have k0 := fun n : Kept (w8.alloc (.cells #[.int .i64 gk, .int .i64 gi, .string noText] 27)) => n.cell d0; have k1 := fun n : Kept (w8.alloc (.cells #[.int .i64 gk, .int .i64 gi, .string noText] 27)) => n.cell d1; have k2 := fun n : Kept (w8.alloc (.cells #[.int .i64 gk, .int .i64 gi, .string noText] 27)) => n.cell d2))
                refine wp_region_kept (by kernel_rfl) (by kernel_rfl) ?_
                repeat (go_big_quiet_step ((first | (go_at_call 11; (with_reducible exact Calls.kept (refBool_f _))) | (go_at_call 11; (with_reducible exact Calls.kept (refBool_t _))))))
                refine wpQuiet_nil ?_
                intro wk hw'
                obtain ⟨⟨wq, hwq⟩, hw''⟩ := hw'
                simp only at hw''
                subst hw''
                have hk := h9.trans (hwq.mono h9.size)
                have bT1 := bT9.below hwq
                have bG1 := bG.below hwq
                have t0 := bT1.cell 0; have t1 := bT1.cell 1; have t2 := bT1.cell 2; simp only [List.getElem?_toArray, List.getElem?_cons_zero, List.getElem?_cons_succ] at t0 t1 t2
                have g0 := bG1.cell 0; have g1 := bG1.cell 1; have g2 := bG1.cell 2; simp only [List.getElem?_toArray, List.getElem?_cons_zero, List.getElem?_cons_succ] at g0 g1 g2
                go_wp2_with fail
                go_ret
                exact ⟨rfl, hk⟩
              · have e13 : (op == 13) = false := beq_eq_false_iff_ne.2 h13
                have e14 : (op == 14) = false := beq_eq_false_iff_ne.2 h14
                clear hs h13 h14
                go_wp2_with (first
                  | (go_at_call 9; (with_reducible refine (HApp.out _ _ hb HD.out).mono ?_); rintro e w5 ⟨rfl, hb5⟩; have q5 := (Below.refl wr.heap.size wr).trans hb5; have q6 := q5.alloc q5.size (.cells #[.int .i64 gk, .int .i64 gi, .string noText] 27); have h6 := hb.trans (q6.mono hb.size); have bT := Blk.new w5 #[.int .i64 gk, .int .i64 gi, .string noText] 27)
                  | (go_at_call 10; (with_reducible refine (parts_call op _ _ _ _).mono ?_); rintro e w7 ⟨rfl, hb7⟩; have q7 := q6.trans (hb7.mono q6.size); have h7 := hb.trans (q7.mono hb.size); have bT7 := bT.below hb7)
                  | (go_at_call 8; (with_reducible refine (HVal.out _ h7).mono ?_); rintro e w8 ⟨rfl, hb8⟩; have q8 := q7.trans (hb8.mono q7.size); have q9 := q8.alloc q8.size (.cells #[.int .i64 gk, .int .i64 gi, .string noText] 27); have h9 := hb.trans (q9.mono hb.size); have bT9 := (bT7.below hb8).alloc (.cells #[.int .i64 gk, .int .i64 gi, .string noText] 27); have bG := Blk.new w8 #[.int .i64 gk, .int .i64 gi, .string noText] 27; have hat9 := hat.block (q9.block b hbl); have d0 := hat9 0 _ rfl 0 _ rfl; have d1 := hat9 0 _ rfl 1 _ rfl; have d2 := hat9 0 _ rfl 2 _ rfl; simp only [Nat.zero_mul, Nat.add_zero] at d0 d1 d2; have k0 := fun n : Kept (w8.alloc (.cells #[.int .i64 gk, .int .i64 gi, .string noText] 27)) => n.cell d0; have k1 := fun n : Kept (w8.alloc (.cells #[.int .i64 gk, .int .i64 gi, .string noText] 27)) => n.cell d1; have k2 := fun n : Kept (w8.alloc (.cells #[.int .i64 gk, .int .i64 gi, .string noText] 27)) => n.cell d2))
                refine wp_region_kept (by kernel_rfl) (by kernel_rfl) ?_
                repeat (go_big_quiet_step ((first | (go_at_call 11; (with_reducible exact Calls.kept (refBool_f _))) | (go_at_call 11; (with_reducible exact Calls.kept (refBool_t _))))))
                refine wpQuiet_nil ?_
                intro wk hw'
                obtain ⟨⟨wq, hwq⟩, hw''⟩ := hw'
                simp only at hw''
                subst hw''
                have hk := h9.trans (hwq.mono h9.size)
                have bT1 := bT9.below hwq
                have bG1 := bG.below hwq
                have t0 := bT1.cell 0; have t1 := bT1.cell 1; have t2 := bT1.cell 2; simp only [List.getElem?_toArray, List.getElem?_cons_zero, List.getElem?_cons_succ] at t0 t1 t2
                have g0 := bG1.cell 0; have g1 := bG1.cell 1; have g2 := bG1.cell 2; simp only [List.getElem?_toArray, List.getElem?_cons_zero, List.getElem?_cons_succ] at g0 g1 g2
                go_wp2_with fail
                go_ret
                exact ⟨rfl, hk⟩
          · have hG := hset.out rfl hs
            injection hG with hG1 hG2
            injection hG1 with hG3 hG4 hG5
            subst hG2 hG3 hG4 hG5
            clear hset hoth
            rcases set_true hs with ⟨rfl, hv⟩ | ⟨rfl, hv⟩
            · injection hv with hv1 hv2 hv3
              subst hv1 hv2 hv3
              have hE := fun w => run_eq_dat 1 0 noText w
              clear hs
              go_wp2_with (first
                | (go_at_call 9; (with_reducible refine (HApp.out _ _ hb HD.out).mono ?_); rintro e w5 ⟨rfl, hb5⟩; have q5 := (Below.refl wr.heap.size wr).trans hb5; have q6 := q5.alloc q5.size (.cells #[.int .i64 tk, .int .i64 ti, .string noText] 27); have h6 := hb.trans (q6.mono hb.size); have bT := Blk.new w5 #[.int .i64 tk, .int .i64 ti, .string noText] 27)
                | (go_at_call 10; (with_reducible refine (parts_call 13 _ _ _ _).mono ?_); rintro e w7 ⟨rfl, hb7⟩; have q7 := q6.trans (hb7.mono q6.size); have h7 := hb.trans (q7.mono hb.size); have bT7 := bT.below hb7)
                | (go_at_call 8; (with_reducible refine (HVal.out _ h7).mono ?_); rintro e w8 ⟨rfl, hb8⟩; have q8 := q7.trans (hb8.mono q7.size); have q9 := q8.alloc q8.size (.cells #[.int .i64 1, .int .i64 0, .string noText] 27); have h9 := hb.trans (q9.mono hb.size); have bT9 := (bT7.below hb8).alloc (.cells #[.int .i64 1, .int .i64 0, .string noText] 27); have bG := Blk.new w8 #[.int .i64 1, .int .i64 0, .string noText] 27; have hat9 := hat.block (q9.block b hbl); have d0 := hat9 0 _ rfl 0 _ rfl; have d1 := hat9 0 _ rfl 1 _ rfl; have d2 := hat9 0 _ rfl 2 _ rfl; simp only [Nat.zero_mul, Nat.add_zero] at d0 d1 d2; have k0 := fun n : Kept (w8.alloc (.cells #[.int .i64 1, .int .i64 0, .string noText] 27)) => n.cell d0; have k1 := fun n : Kept (w8.alloc (.cells #[.int .i64 1, .int .i64 0, .string noText] 27)) => n.cell d1; have k2 := fun n : Kept (w8.alloc (.cells #[.int .i64 1, .int .i64 0, .string noText] 27)) => n.cell d2))
              refine wp_region_kept (by kernel_rfl) (by kernel_rfl) ?_
              repeat (go_big_quiet_step ((first | (go_at_call 11; (with_reducible exact Calls.kept (refBool_f _))) | (go_at_call 11; (with_reducible exact Calls.kept (refBool_t _))))))
              refine wpQuiet_nil ?_
              intro wk hw'
              obtain ⟨⟨wq, hwq⟩, hw''⟩ := hw'
              simp only at hw''
              subst hw''
              have hk := h9.trans (hwq.mono h9.size)
              have qk := q9.trans (hwq.mono q9.size)
              have bG1 := bG.below hwq
              clear k0 k1 k2
              have g0 := bG1.cell 0; have g1 := bG1.cell 1; have g2 := bG1.cell 2; simp only [List.getElem?_toArray, List.getElem?_cons_zero, List.getElem?_cons_succ] at g0 g1 g2
              have d0 := (hat.block (qk.block b hbl)) 0 _ rfl 0 _ rfl
              have d1 := (hat.block (qk.block b hbl)) 0 _ rfl 1 _ rfl
              have d2 := (hat.block (qk.block b hbl)) 0 _ rfl 2 _ rfl
              simp only [Nat.zero_mul, Nat.add_zero] at d0 d1 d2
              have k0 := fun n : Kept wk => n.cell d0
              have k1 := fun n : Kept wk => n.cell d1
              have k2 := fun n : Kept wk => n.cell d2
              have k3 := fun n : Kept wk => n.cell g0
              have k4 := fun n : Kept wk => n.cell g1
              have k5 := fun n : Kept wk => n.cell g2
              go_wp2_with fail
              refine wp_region_kept (by kernel_rfl) (by kernel_rfl) ?_
              repeat (go_big_quiet_step (fail))
              refine wpQuiet_nil ?_
              intro wk hw'
              obtain ⟨⟨wq, hwq⟩, hw''⟩ := hw'
              simp only at hw''
              subst hw''
              have hk2 := hk.trans (hwq.mono hk.size)
              go_wp2_with fail
              go_ret
              exact ⟨rfl, hk2⟩
            · injection hv with hv1 hv2 hv3
              subst hv1 hv2 hv3
              have hE := fun w => run_eq_dat 1 1 noText w
              clear hs
              go_wp2_with (first
                | (go_at_call 9; (with_reducible refine (HApp.out _ _ hb HD.out).mono ?_); rintro e w5 ⟨rfl, hb5⟩; have q5 := (Below.refl wr.heap.size wr).trans hb5; have q6 := q5.alloc q5.size (.cells #[.int .i64 tk, .int .i64 ti, .string noText] 27); have h6 := hb.trans (q6.mono hb.size); have bT := Blk.new w5 #[.int .i64 tk, .int .i64 ti, .string noText] 27)
                | (go_at_call 10; (with_reducible refine (parts_call 14 _ _ _ _).mono ?_); rintro e w7 ⟨rfl, hb7⟩; have q7 := q6.trans (hb7.mono q6.size); have h7 := hb.trans (q7.mono hb.size); have bT7 := bT.below hb7)
                | (go_at_call 8; (with_reducible refine (HVal.out _ h7).mono ?_); rintro e w8 ⟨rfl, hb8⟩; have q8 := q7.trans (hb8.mono q7.size); have q9 := q8.alloc q8.size (.cells #[.int .i64 1, .int .i64 1, .string noText] 27); have h9 := hb.trans (q9.mono hb.size); have bT9 := (bT7.below hb8).alloc (.cells #[.int .i64 1, .int .i64 1, .string noText] 27); have bG := Blk.new w8 #[.int .i64 1, .int .i64 1, .string noText] 27; have hat9 := hat.block (q9.block b hbl); have d0 := hat9 0 _ rfl 0 _ rfl; have d1 := hat9 0 _ rfl 1 _ rfl; have d2 := hat9 0 _ rfl 2 _ rfl; simp only [Nat.zero_mul, Nat.add_zero] at d0 d1 d2; have k0 := fun n : Kept (w8.alloc (.cells #[.int .i64 1, .int .i64 1, .string noText] 27)) => n.cell d0; have k1 := fun n : Kept (w8.alloc (.cells #[.int .i64 1, .int .i64 1, .string noText] 27)) => n.cell d1; have k2 := fun n : Kept (w8.alloc (.cells #[.int .i64 1, .int .i64 1, .string noText] 27)) => n.cell d2))
              refine wp_region_kept (by kernel_rfl) (by kernel_rfl) ?_
              repeat (go_big_quiet_step ((first | (go_at_call 11; (with_reducible exact Calls.kept (refBool_f _))) | (go_at_call 11; (with_reducible exact Calls.kept (refBool_t _))))))
              refine wpQuiet_nil ?_
              intro wk hw'
              obtain ⟨⟨wq, hwq⟩, hw''⟩ := hw'
              simp only at hw''
              subst hw''
              have hk := h9.trans (hwq.mono h9.size)
              have qk := q9.trans (hwq.mono q9.size)
              have bG1 := bG.below hwq
              clear k0 k1 k2
              have g0 := bG1.cell 0; have g1 := bG1.cell 1; have g2 := bG1.cell 2; simp only [List.getElem?_toArray, List.getElem?_cons_zero, List.getElem?_cons_succ] at g0 g1 g2
              have d0 := (hat.block (qk.block b hbl)) 0 _ rfl 0 _ rfl
              have d1 := (hat.block (qk.block b hbl)) 0 _ rfl 1 _ rfl
              have d2 := (hat.block (qk.block b hbl)) 0 _ rfl 2 _ rfl
              simp only [Nat.zero_mul, Nat.add_zero] at d0 d1 d2
              have k0 := fun n : Kept wk => n.cell d0
              have k1 := fun n : Kept wk => n.cell d1
              have k2 := fun n : Kept wk => n.cell d2
              have k3 := fun n : Kept wk => n.cell g0
              have k4 := fun n : Kept wk => n.cell g1
              have k5 := fun n : Kept wk => n.cell g2
              go_wp2_with fail
              refine wp_region_kept (by kernel_rfl) (by kernel_rfl) ?_
              repeat (go_big_quiet_step (fail))
              refine wpQuiet_nil ?_
              intro wk hw'
              obtain ⟨⟨wq, hwq⟩, hw''⟩ := hw'
              simp only at hw''
              subst hw''
              have hk2 := hk.trans (hwq.mono hk.size)
              go_wp2_with fail
              go_ret
              exact ⟨rfl, hk2⟩
      · have e5 : (tf == 5) = false := beq_eq_false_iff_ne.2 h5
        have hG := hoth.out (.inl h5)
        unfold triX at hG
        injection hG with hG1 hG2
        injection hG1 with hG3 hG4 hG5
        subst hG2 hG3 hG4 hG5
        have hE := fun w => run_eq_dat gk gi noText w
        clear hset hoth hne h5
        go_wp2_with (first
          | (go_at_call 9; (with_reducible refine (HApp.out _ _ hb HD.out).mono ?_); rintro e w5 ⟨rfl, hb5⟩; have q5 := (Below.refl wr.heap.size wr).trans hb5; have q6 := q5.alloc q5.size (.cells #[.int .i64 gk, .int .i64 gi, .string noText] 27); have h6 := hb.trans (q6.mono hb.size); have bT := Blk.new w5 #[.int .i64 gk, .int .i64 gi, .string noText] 27)
          | (go_at_call 10; (with_reducible refine (parts_call op _ _ _ _).mono ?_); rintro e w7 ⟨rfl, hb7⟩; have q7 := q6.trans (hb7.mono q6.size); have h7 := hb.trans (q7.mono hb.size); have bT7 := bT.below hb7)
          | (go_at_call 8; (with_reducible refine (HVal.out _ h7).mono ?_); rintro e w8 ⟨rfl, hb8⟩; have q8 := q7.trans (hb8.mono q7.size); have q9 := q8.alloc q8.size (.cells #[.int .i64 gk, .int .i64 gi, .string noText] 27); have h9 := hb.trans (q9.mono hb.size); have bT9 := (bT7.below hb8).alloc (.cells #[.int .i64 gk, .int .i64 gi, .string noText] 27); have bG := Blk.new w8 #[.int .i64 gk, .int .i64 gi, .string noText] 27))
        refine wp_region_kept (by kernel_rfl) (by kernel_rfl) ?_
        repeat (go_big_quiet_step (fail))
        refine wpQuiet_nil ?_
        intro wk hw'
        obtain ⟨⟨wq, hwq⟩, hw''⟩ := hw'
        simp only at hw''
        subst hw''
        have hk := h9.trans (hwq.mono h9.size)
        have bT1 := bT9.below hwq
        have bG1 := bG.below hwq
        have t0 := bT1.cell 0; have t1 := bT1.cell 1; have t2 := bT1.cell 2; simp only [List.getElem?_toArray, List.getElem?_cons_zero, List.getElem?_cons_succ] at t0 t1 t2
        have g0 := bG1.cell 0; have g1 := bG1.cell 1; have g2 := bG1.cell 2; simp only [List.getElem?_toArray, List.getElem?_cons_zero, List.getElem?_cons_succ] at g0 g1 g2
        go_wp2_with fail
        go_ret
        exact ⟨rfl, hk⟩

end Go.Proofs.YtippffjhkinfoaaGreatDoor

namespace Go.Proofs.YtippffjhkinfoaaGreatDoor
open Go.RowKit

theorem valXs_none (env : Env) : ∀ L : List Ex, valXs env L [] = L.map fun x => valX env x []
  | [] => by rw [valXs_nil]; rfl
  | e :: l => by rw [valXs_cons, List.take_nil, List.drop_nil, valXs_none env l]; rfl
theorem subsXs_none : ∀ L : List Ex, (∀ x ∈ L, subsX x = []) → subsXs L = []
  | [], _ => subsXs_nil
  | e :: l, h => by rw [subsXs_cons, h e (by simp), subsXs_none l fun x hx => h x (by simp [hx])]; rfl
theorem dat_nil (w : World) : DatV w (.slice none 0 0) [] := .inl ⟨⟨none, rfl⟩, rfl⟩
/-- The new call. -/
def callL (op : Int) (vl : Value) (L : List Ex) : Ex := ⟨3, 0, false, nullD, 0, 0, op, vl, .slice none 0 0, L⟩
theorem value_callL (op : Int) (vl : Value) (L : List Ex) (env : Env) (h : ∀ x ∈ L, rightX env x = true ∧ (subsX x).length = 0 ∧ (valueX env x []).2 = 0) :
    subsX (callL op vl L) = [] ∧ valueX env (callL op vl L) [] = partsX op (L.map fun x => (valueX env x []).1) := by
  have h0 : ∀ x ∈ L, subsX x = [] := fun x hx => List.eq_nil_of_length_eq_zero (h x hx).2.1
  have hs : subsX (callL op vl L) = [] := by rw [subsX_mid rfl]; exact subsXs_none L h0
  have hv : ∀ x ∈ L, valX env x [] = ((valueX env x []).1, 0) := by
    intro x hx
    obtain ⟨h1, _, h3⟩ := h x hx
    have e : valueX env x [] = valX env x [] := by
      unfold valueX
      rw [if_neg (by rw [h1, h0 x hx]; simp)]
    rw [e] at h3 ⊢
    rw [← h3]
  refine ⟨hs, ?_⟩
  have hr : rightX env (callL op vl L) = manyX op L.length := by
    rw [rightX_eq, if_neg (by show ¬ (3 : Int) = 1; decide), if_neg (by show ¬ (3 : Int) = 2; decide), if_pos (show (callL op vl L).k = 3 from rfl), rightXs_all]
    show (L.all (rightX env) && manyX op L.length) = _
    rw [List.all_eq_true.2 fun x hx => (h x hx).1, Bool.true_and]
  unfold valueX partsX
  rw [hr, hs, List.length_map]
  cases hm : manyX op L.length
  · rw [if_pos (.inl rfl), if_neg (by decide)]
  · rw [if_neg (by simp), if_pos rfl, valX_eq, if_neg (by show ¬ (3 : Int) = 1; decide), if_neg (by show ¬ (3 : Int) = 2; decide), if_pos (show (callL op vl L).k = 3 from rfl)]
    show callX op (valXs env L []) = _
    rw [valXs_none, List.map_map]
    congr 1
    exact List.map_congr_left fun x hx => hv x hx
theorem value_right {env : Env} {x : Ex} (hB : ExB x) (h : rightX env x = true ∧ (subsX x).length = 0 ∧ (valueX env x []).2 = 0) : rightD (valueX env x []).1 = true := by
  have h0 := List.eq_nil_of_length_eq_zero h.2.1
  have e : valueX env x [] = valX env x [] := by
    unfold valueX
    rw [if_neg (by rw [h.1, h0]; simp)]
  rw [e]
  exact right_val hB h.1 [] (fun d hd => by cases hd)
theorem value_in {env : Env} (hEI : ∀ r ∈ env, ∀ d ∈ r.l, InI d) {x : Ex} (hB : ExB x) : InI (valueX env x []).1 := by
  unfold valueX
  split
  · exact nulX_in 1
  · exact valX_in app_in hEI hB [] (fun d hd => by cases hd)

set_option maxRecDepth 100000 in
set_option maxHeartbeats 8000000 in
theorem parts_out (op : Int) (A0 Ae : Option Addr) (n c0 ne ce : Nat) (hm : n ≤ 9223372036854775807) (h : op = 16 ∨ op = 17 ∨ 4 < n) (w : World) : Calls Tryz.prog 3 #[.int .i64 op, .slice A0 n c0, .slice Ae ne ce] w (TrueB w) := by
  by_cases h16 : op = 16
  · subst h16
    clear h
    go_enter Tryz.func3, Tryz.ntmps3
    go_wp2_with (go_at_call 5; (with_reducible refine (alive_any _).mono ?_); rintro e w1 ⟨rfl, hb1⟩)
    go_ret
    exact ⟨rfl, hb1⟩
  · have e16 : (op == 16) = false := beq_eq_false_iff_ne.2 h16
    by_cases h17 : op = 17
    · subst h17
      clear h e16
      go_enter Tryz.func3, Tryz.ntmps3
      go_wp2_with (go_at_call 5; (with_reducible refine (alive_any _).mono ?_); rintro e w1 ⟨rfl, hb1⟩)
      go_ret
      exact ⟨rfl, hb1⟩
    · have e17 : (op == 17) = false := beq_eq_false_iff_ne.2 h17
      have e4 : decide ((4 : Int) < (n : Int)) = true := decide_eq_true (by omega)
      clear h
      go_enter Tryz.func3, Tryz.ntmps3
      go_wp2_with (go_at_call 5; (with_reducible refine (alive_any _).mono ?_); rintro e w1 ⟨rfl, hb1⟩)
      go_ret
      exact ⟨rfl, hb1⟩

/-- EvalParts. -/
theorem parts_any {w : World} (op : Int) (vl : Value) (L : List Ex) (hL : ExsV w vl L) (hok : ∀ x ∈ L, ExOk w x) (hB : ∀ x ∈ L, ExB x) (hs : ∀ x ∈ L, (subsX x).length ≤ 1048576) (env : Env) (vE : Value) (hE : EnvV w vE env) (hEI : ∀ r ∈ env, ∀ d ∈ r.l, InI d) (hT : Tabs w) :
    Calls Tryz.prog 3 #[.int .i64 op, vl, vE] w (TrueB w) := by
  have hvE : SliceV vE := by obtain ⟨A, c, rfl, _, _⟩ := hE.slice; exact ⟨_, _, _, rfl⟩
  by_cases h : op = 16 ∨ op = 17 ∨ 4 < L.length
  · obtain ⟨A0, c0, rfl, _, hm⟩ := hL.slice
    obtain ⟨Ae, ne, ce, rfl⟩ := hvE
    exact parts_out op A0 Ae L.length c0 ne ce (by unfold maxLen at hm; omega) h w
  · refine parts_raw op L vl vE hvE (rightX env) (fun x => (subsX x).length) (fun x => valueX env x []) w hL (fun x hx => ⟨by obtain ⟨A, c, e, _, _⟩ := (hok x hx).kv.slice; exact ⟨_, _, _, e⟩, (hok x hx).sv⟩) (by omega) (fun h' => h (.inl h')) (fun h' => h (.inr (.inl h')))
      (Lib.hid fun x hx w' hb' => exRight_any (hok x hx) env vE hE w' hb')
      (Lib.hid fun x hx w' hb' => (subs_any (hok x hx) (hs x hx) w' hb').mono (by
        rintro e w2 ⟨A, c, h1, _, h3⟩
        exact ⟨A, c, h1, h3⟩))
      (Lib.hid fun x hx w' hb' => value_any ((hok x hx).later hb') env vE (hE.below hb') hEI (hT.below hb') (hB x hx) (hs x hx) (.slice none 0 0) [] (dat_nil w') (fun d hd => by cases hd))
      (Lib.hid fun hg => ?_)
    obtain ⟨h1, h2⟩ := value_callL op vl L env hg
    have hp := parts_pure op (L.map fun x => (valueX env x []).1) (fun h' => h (.inl h')) (fun h' => h (.inr (.inl h'))) (fun d hd => by
      obtain ⟨x, hx, rfl⟩ := List.mem_map.1 hd
      exact value_right (hB x hx) (hg x hx))
    refine ⟨fun v w' _ hv => refApply_any op _ v w' hv (fun d hd => ?_), fun w' hb' => ?_, hp.1, hp.2⟩
    · obtain ⟨x, hx, rfl⟩ := List.mem_map.1 hd
      exact value_in hEI (hB x hx)
    · have h3 := value_any (w := w') (e := callL op vl L) ⟨_, hL.below hb', ⟨_, _, _, rfl⟩, fun x hx => (hok x hx).later hb'⟩ env vE (hE.below hb') hEI (hT.below hb')
        ⟨_, ⟨(by show (-9223372036854775808 : Int) ≤ 0; decide), (by show (0 : Int) ≤ 9223372036854775807; decide)⟩, (by show L.length ≤ 1048576; omega), hB⟩ (by rw [h1]; exact Nat.zero_le _) (.slice none 0 0) [] (dat_nil w') (fun d hd => by cases hd)
      rwa [h2] at h3

end Go.Proofs.YtippffjhkinfoaaGreatDoor

namespace Go.Proofs.YtippffjhkinfoaaGreatDoor
open Go.ChangeShapes Go.WideShapes Go.ChangeAt Go.RowKit Go.Joins Go.Deep

theorem evalParts_whole (os : Os) {H : Type} (enc : TypeId × Value → H) :
    DataW.whole enc Tryz.prog ((World.laidAll Tryz.prog os Rows.evalPartsUptoRow.laid).forCall (fun _ _ => 0) ⟨#[], #[.int .i64 0, .slice none 0 0, .slice none 0 0], []⟩).memory Tryz.f3.params.toList Rows.evalPartsSpec.vars false #[.int .i64 0, .slice none 0 0, .slice none 0 0].toList 8 = some ([.lit (.int .i64 0), .nil, .nil], [], []) := by kernel_rfl

set_option linter.unusedVariables false in
set_option maxRecDepth 100000 in
theorem evalPartsUpto_lifted (os : Os) (started : os.Started) (H : Type) (enc : TypeId × Value → H) (F : Stop.Interp) :
    ReturnsInHanded {} Tryz.checked os 3 .any ((Rows.OpenSpec.upto Rows.evalPartsSpec).preRow enc Tryz.prog Tryz.f3 Rows.evalPartsUptoRow.domain false Rows.evalPartsUptoRow.laid)
      (((Rows.OpenSpec.upto Rows.evalPartsSpec).at F).post enc Tryz.prog Tryz.f3 false true false false) := by
  refine returnsInHanded_of_row (C := Tryz.checked) (s := Rows.OpenSpec.upto Rows.evalPartsSpec) Tryz.own started (by kernel_rfl) Tryz.func3
    ⟨World.laidAll Tryz.prog os Rows.evalPartsUptoRow.laid, fun _ _ => 0, ⟨#[], #[.int .i64 0, .slice none 0 0, .slice none 0 0], []⟩, World.laidAll_os _ _ _, World.shaped_of_ZipB (by kernel_rfl) (by kernel_rfl),
      (Input.okWide_of_okWideB (P := Tryz.prog) (w := (World.laidAll Tryz.prog os Rows.evalPartsUptoRow.laid).forCall (fun _ _ => 0) ⟨#[], #[.int .i64 0, .slice none 0 0, .slice none 0 0], []⟩) (f := 3) (i := ⟨#[], #[.int .i64 0, .slice none 0 0, .slice none 0 0], []⟩) (base := 0) (by kernel_rfl)).1,
      (Input.okWide_of_okWideB (P := Tryz.prog) (w := (World.laidAll Tryz.prog os Rows.evalPartsUptoRow.laid).forCall (fun _ _ => 0) ⟨#[], #[.int .i64 0, .slice none 0 0, .slice none 0 0], []⟩) (f := 3) (i := ⟨#[], #[.int .i64 0, .slice none 0 0, .slice none 0 0], []⟩) (by kernel_rfl)).2,
      OpenSpec.preRow_of_cond 8 (evalParts_whole os enc) (by kernel_rfl) (fun k hk => by cases hk; kernel_rfl) (by kernel_rfl) (by rw [MakeChecks.laidMetH_plain _ _ _ (by kernel_rfl)]; exact laidMet_laidAll _ (by kernel_rfl) (by kernel_rfl)),
      by simp only [Assume.holds]; refine ⟨?_, ?_, ?_, ?_, ?_⟩; all_goals first | (intro h; cases h; done) | (intro d h; cases h; done) | simp⟩ ?_
  intro W base args ds gs before hval0 hW _ hcond _ hL _ _
  have hk := hcond _ rfl
  have hL' : laidMet Tryz.prog Rows.evalPartsUptoRow.laid W := by rw [MakeChecks.laidMetH_plain _ _ _ (by kernel_rfl)] at hL; exact hL
  have hT : Tabs W := tabs_of (Lib.laidMet.reads hL' (List.Mem.tail _ (List.Mem.tail _ (List.Mem.tail _ (List.Mem.tail _ (List.Mem.head _)))))) (Lib.laidMet.reads hL' (List.Mem.tail _ (List.Mem.tail _ (List.Mem.tail _ (List.Mem.head _)))))
  have hval : ∀ (j : Nat) t v, Tryz.f3.params[j]? = some t → args[j]? = some v → Value.okWide Tryz.prog W .any base t v := hval0
  have hW' := hW
  obtain ⟨p, q, hA0, hV, rfl, _, _⟩ := hW
  have hA : DataW.TrodAll enc Tryz.prog W 0 (fun _ => true) true Tryz.f3.params.toList args.toList ds p := hA0
  rw [Tryz.params3] at hA hval
  obtain ⟨v0, v1, v2, d0, d1, d2, p0, p1, p2, rfl, rfl, rfl, h0, h1, h2⟩ := trodAll_three hA
  obtain ⟨rfl, rfl⟩ := trodVars_none hV
  have c1 := h1
  have lt1 : ∀ x ∈ p1, x.block < W.heap.size := by obtain ⟨m, hm⟩ := c1; exact DataW.trod_lt m _ _ _ hm
  have c2 := h2
  have lt2 : ∀ x ∈ p2, x.block < W.heap.size := by obtain ⟨m, hm⟩ := c2; exact DataW.trod_lt m _ _ _ hm
  obtain ⟨x0, rfl, rfl, rfl, w0⟩ := open_int Tryz.underlying3 (hval 0 3 v0 rfl rfl) h0
  obtain ⟨a1, n1, m1, rfl⟩ := okWide_slice Tryz.underlying22 (hval 1 22 v1 rfl rfl)
  obtain ⟨fu1, hf1⟩ := h1
  obtain ⟨w1, l1, hc1, hr1, hi1, hs1⟩ := open_exl hf1
  obtain rfl : Value.slice a1 n1 m1 = w1 := by
    have h1 : [Value.slice a1 n1 m1] = [w1] := hc1
    injection h1
  obtain ⟨a2, n2, m2, rfl⟩ := okWide_slice Tryz.underlying23 (hval 2 23 v2 rfl rfl)
  obtain ⟨fu2, hf2⟩ := h2
  obtain ⟨w2, l2, hc2, hr2, hi2⟩ := open_env hf2
  obtain rfl : Value.slice a2 n2 m2 = w2 := by
    have h1 : [Value.slice a2 n2 m2] = [w2] := hc2
    injection h1
  have hb : Rows.uptoBulkAll [.lit (.int .i64 x0), d1, d2] ≤ 1048576 := of_decide_eq_true hk
  simp only [Rows.uptoBulkAll] at hb
  simp only [List.append_nil, List.append_assoc] at hW'
  have hs2 : sizXs l1 ≤ 1048576 := by simp only at hs1; omega
  have hsx : ∀ x ∈ l1, sizX x ≤ 1048576 := fun x hx => Nat.le_trans (sizXs_mem hx) hs2
  refine (parts_any x0 _ l1 hr1 (fun x hx => (hi1 x hx).1) (fun x hx => (hi1 x hx).2.small (by have := hsx x hx; omega)) (fun x hx => Nat.le_trans (subs_siz (hi1 x hx).1) (hsx x hx)) l2 _ hr2 hi2 hT).mono fun e W' ⟨he, bel⟩ => ?_
  subst he
  exact ⟨_, rfl, _, _, _, [], _, [], hW', trodAll_mk1 (shut_bool Tryz.underlying4 _), (trodAll_mk3 (shut_int Tryz.underlying3 w0) (Below.trod Tryz.laidOut (by kernel_rfl) (of_decide_eq_true (by kernel_rfl)) c1 bel lt1) (Below.trod Tryz.laidOut (by kernel_rfl) (of_decide_eq_true (by kernel_rfl)) c2 bel lt2)), rfl, bel.frame _, fun h => by cases h⟩

theorem evalPartsUpto_holds : Rows.EvalPartsUptoSaid :=
  OpenClaim.holds_of_cond 3 Tryz.f3 rfl rfl rfl rfl rfl rfl rfl ⟨rfl, rfl, rfl, rfl, rfl⟩ rfl rfl rfl rfl rfl (by kernel_rfl) Tryz.func3 (by kernel_rfl)
    (of_decide_eq_true (by kernel_rfl)) (by unfold Func.isWrapper; first | (rw [if_pos (by decide +kernel)]; kernel_rfl) | (rw [if_neg (by decide +kernel)]; exact ⟨rfl, rfl⟩))
    (fun os started H enc _ F => by rw [OpenClaim.pre_eq_preRow]; exact evalPartsUpto_lifted os started H enc F)

theorem evalPartsUpto_card_holds : Rows.EvalPartsUptoCardSaid :=
  Claim7.holds_tied_plain_at .later [] _ _ _ _ evalPartsUpto_holds (fun _ h => by cases h) (by kernel_rfl) (fun _ h => by cases h) evalPartsUpto_row_tie rfl ⟨rfl, rfl⟩ (by kernel_rfl) rfl
    (fun f fn hf hfn => by
      obtain rfl : f = 3 := Option.some.inj ((show Tryz.prog.funcNamed "freshet/freshetlaw07.EvalParts" = some 3 by kernel_rfl).symm.trans hf) |>.symm
      obtain rfl : fn = Tryz.f3 := (Option.some.inj (Tryz.func3.symm.trans hfn)).symm
      exact ⟨by kernel_rfl, fun j t ht => by
        rw [Tryz.params3] at ht
        have hm : t ∈ [3, 22, 23] := by simpa using Array.mem_of_getElem? ht
        have hall : ([3, 22, 23].all fun u => !Tryz.prog.wantsStandIn u) = true := by kernel_rfl
        exact (show Tryz.prog.wantsStandIn t = false by simpa using List.all_eq_true.1 hall t hm)⟩)
    (by kernel_rfl)

#print axioms evalPartsUpto_card_holds
end Go.Proofs.YtippffjhkinfoaaGreatDoor
