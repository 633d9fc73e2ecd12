/-
  Lists of values in memory; the reference's Bool, Many, only, has and Order.
-/
import Derived.Test.YtimmgiiddckleaaDoorRefAr
import Derived.Test.YtimmgiiddckleaaDoorRefCmp
import Derived.Test.YtimmgiiddckleaaDoorRight
import Derived.Test.YtimmgiiddckleaaDoorLogic2
namespace Go.Proofs.YtimmgiiddckleaaDoor
open Go.RowKit

def encDat (d : Dat) : List Value := [.int .i64 d.k, .int .i64 d.i, .string d.s]
theorem hkDat (x : Dat) : (encDat x).length = 3 := rfl
/-- A slice that holds the values. -/
abbrev DatV (w : World) (v : Value) (L : List Dat) : Prop := ValG encDat 3 w v L
abbrev datVal (d : Dat) : Value := .agg #[.int .i64 d.k, .int .i64 d.i, .string d.s]

theorem AtG.dat {w : World} {b off : Nat} {L : List Dat} (h : AtG encDat 3 w b off L) (n : Nat) (hn : n < L.length) :
    w.cell? ⟨b, off + n * 3, none⟩ = some (.int .i64 L[n].k) ∧ w.cell? ⟨b, off + n * 3 + 1, none⟩ = some (.int .i64 L[n].i) ∧ w.cell? ⟨b, off + n * 3 + 2, none⟩ = some (.string L[n].s) := by
  have e := List.getElem?_eq_getElem hn
  exact ⟨by simpa using h n _ e 0 _ rfl, h n _ e 1 _ rfl, h n _ e 2 _ rfl⟩

/-- One value. -/
theorem DatV.one {w : World} {v : Value} {a : Dat} (h : DatV w v [a]) : ∃ b off c, v = .slice (some ⟨b, off, none⟩) 1 c ∧ 1 ≤ c ∧ b < w.heap.size ∧
    w.cell? ⟨b, off, none⟩ = some (.int .i64 a.k) ∧ w.cell? ⟨b, off + 1, none⟩ = some (.int .i64 a.i) ∧ w.cell? ⟨b, off + 2, none⟩ = some (.string a.s) := by
  rcases h with ⟨_, h⟩ | ⟨b, off, c, rfl, _, hb, hat, hc⟩
  · cases h
  · obtain ⟨h0, h1, h2⟩ := hat.dat 0 (by simp)
    exact ⟨b, off, c, rfl, hc, hb, by simpa using h0, by simpa using h1, by simpa using h2⟩
/-- Two values. -/
theorem DatV.two {w : World} {v : Value} {a a' : Dat} (h : DatV w v [a, a']) : ∃ b off c, v = .slice (some ⟨b, off, none⟩) 2 c ∧ 2 ≤ c ∧ b < w.heap.size ∧
    (w.cell? ⟨b, off, none⟩ = some (.int .i64 a.k) ∧ w.cell? ⟨b, off + 1, none⟩ = some (.int .i64 a.i) ∧ w.cell? ⟨b, off + 2, none⟩ = some (.string a.s)) ∧
    w.cell? ⟨b, off + 3, none⟩ = some (.int .i64 a'.k) ∧ w.cell? ⟨b, off + 3 + 1, none⟩ = some (.int .i64 a'.i) ∧ w.cell? ⟨b, off + 3 + 2, none⟩ = some (.string a'.s) := by
  rcases h with ⟨_, h⟩ | ⟨b, off, c, rfl, _, hb, hat, hc⟩
  · cases h
  · obtain ⟨h0, h1, h2⟩ := hat.dat 0 (by simp)
    obtain ⟨h3, h4, h5⟩ := hat.dat 1 (by simp)
    exact ⟨b, off, c, rfl, hc, hb, ⟨by simpa using h0, by simpa using h1, by simpa using h2⟩, by simpa using h3, by simpa using h4, by simpa using h5⟩
theorem DatV.len {w : World} {v : Value} {L : List Dat} (h : DatV w v L) : ∃ A c, v = .slice A L.length c ∧ L.length ≤ c ∧ L.length ≤ maxLen := by
  rcases h with ⟨rfl, rfl⟩ | ⟨b, off, c, rfl, hm, _, _, hc⟩
  · exact ⟨none, 0, rfl, Nat.le_refl _, by simp⟩
  · exact ⟨_, c, rfl, hc, hm⟩

/-- Bool. -/
theorem refBool_any (x : Bool) (w : World) :
    Calls Tryd.prog 27 #[.bool x] w fun e w' => e = .returned (.agg #[.int .i64 1, .int .i64 (bitOf x), .string noText]) ∧ Below w.heap.size w w' := by
  cases x
  · go_enter Tryd.func27, Tryd.ntmps27
    go_wp2
    exact bodyPost_ret (v := .agg #[.int .i64 1, .int .i64 0, .string noText]) (by simp [results, Tryd.results27, go_sem]) rfl ⟨rfl, (Below.refl _ _).alloc (Nat.le_refl _) _⟩
  · go_enter Tryd.func27, Tryd.ntmps27
    go_wp2
    exact bodyPost_ret (v := .agg #[.int .i64 1, .int .i64 1, .string noText]) (by simp [results, Tryd.results27, go_sem]) rfl ⟨rfl, (Below.refl _ _).alloc (Nat.le_refl _) _⟩

/-- Many. -/
theorem many_any (op : Int) (w : World) : Calls Tryd.prog 26 #[.int .i64 op] w fun e w' => e = .returned (.int .i64 (arityR op)) ∧ w' = w := by
  by_cases h1 : 3 ≤ op ∧ op ≤ 14
  · have HR : Hid (arityR op = 2) := by unfold Hid arityR; rw [if_neg (by omega), if_pos h1]
    obtain ⟨g1, g2⟩ := h1
    go_enter Tryd.func26, Tryd.ntmps26
    go_wp2
    go_ret
    exact ⟨by rw [HR.out]; rfl, rfl⟩
  · by_cases h2 : op = 1 ∨ op = 2 ∨ op = 15 ∨ op = 18 ∨ op = 19 ∨ op = 20
    · have HR : Hid (arityR op = 1) := by unfold Hid arityR; rw [if_pos h2]
      clear h1
      rcases h2 with rfl | rfl | rfl | rfl | rfl | rfl
      all_goals
        go_enter Tryd.func26, Tryd.ntmps26
        go_wp2
        go_ret
        exact ⟨by rw [HR.out]; rfl, rfl⟩
    · have HR : Hid (arityR op = 0) := by unfold Hid arityR; rw [if_neg h2, if_neg h1]
      have e1 : (op == 1) = false := by simp; omega
      have e2 : (op == 2) = false := by simp; omega
      have e15 : (op == 15) = false := by simp; omega
      by_cases g1 : op < 3
      · clear h1 h2
        go_enter Tryd.func26, Tryd.ntmps26
        go_wp2
        go_ret
        exact ⟨by rw [HR.out]; rfl, rfl⟩
      · have g2 : 14 < op := by omega
        by_cases g3 : op < 18
        · clear h1 h2
          go_enter Tryd.func26, Tryd.ntmps26
          go_wp2
          go_ret
          exact ⟨by rw [HR.out]; rfl, rfl⟩
        · have g4 : 20 < op := by omega
          clear h1 h2
          go_enter Tryd.func26, Tryd.ntmps26
          go_wp2
          go_ret
          exact ⟨by rw [HR.out]; rfl, rfl⟩

/-- Is a value NULL, or of the kinds from f to t? -/
def okEl (f t : Int) (d : Dat) : Bool := decide (d.k = 0 ∨ (f ≤ d.k ∧ d.k ≤ t))
def onlyR (f t : Int) (L : List Dat) : Bool := L.all (okEl f t)

theorem all_take {p : Dat → Bool} {L : List Dat} {n : Nat} (hn : n < L.length) (h : (L.take n).all p = true) (hp : p L[n] = true) : (L.take (n + 1)).all p = true := by
  rw [List.take_add_one, List.all_append, h, List.getElem?_eq_getElem hn]
  simpa using hp
theorem all_not {p : Dat → Bool} {L : List Dat} {n : Nat} (hn : n < L.length) (hp : p L[n] = false) : L.all p = false := by
  rw [List.all_eq_false]
  exact ⟨_, List.getElem_mem hn, by simp [hp]⟩

set_option maxHeartbeats 4000000 in
set_option maxRecDepth 100000 in
theorem only_any (f t : Int) (L : List Dat) (v : Value) (w : World) (hv : DatV w v L) :
    Calls Tryd.prog 31 #[v, .int .i64 f, .int .i64 t] w fun e w' => e = .returned (.bool (onlyR f t L)) ∧ Below w.heap.size w w' := by
  obtain ⟨A, c, rfl, hc, hm⟩ := hv.len
  have HV := Lib.hid hv
  clear hv
  go_enter Tryd.func31, Tryd.ntmps31
  go_wp2_with fail
  go_loopw [11] (fun i wr => ∃ n : Nat, i = .int .i64 n ∧ n ≤ L.length ∧ Hid ((L.take n).all (okEl f t) = true) ∧ Below w.heap.size w wr) (fun i _ => L.length - (intOf i).toNat)
  case atStart => exact ⟨0, rfl, Nat.zero_le _, rfl, Below.refl _ _⟩
  case round =>
    obtain ⟨n, rfl, hn, HA, hb⟩ := hrel
    by_cases hlt : n < L.length
    · rcases HV.out with ⟨_, h0⟩ | ⟨b, off, c', e, _, hbl, hat, _⟩
      · rw [h0] at hlt; simp at hlt
      · injection e with e1 e2 e3
        subst e1 e3
        obtain ⟨h0, h1, h2⟩ := (hat.block (hb.block b hbl)).dat n hlt
        clear hat hbl hn
        have HP : Hid (okEl f t L[n] = true → (L.take (n + 1)).all (okEl f t) = true) := fun hp => all_take hlt HA.out hp
        have HNP : Hid (okEl f t L[n] = false → onlyR f t L = false) := fun hp => all_not hlt hp
        revert HP HNP h0 h1 h2
        generalize L[n] = d
        obtain ⟨dk, di, ds⟩ := d
        intro h0 h1 h2 HP HNP
        simp only at h0 h1 h2
        have hz := hb.size
        have hend := fun (o : Obj) => hb.alloc hz o
        unfold maxLen at hm
        have hn1 : (n : Int) + 1 ≤ 9223372036854775807 := by omega
        by_cases k0 : dk = 0
        · have hq := Lib.hid (HP.out (decide_eq_true (.inl k0)))
          have k0' : (dk != 0) = false := by simp [k0]
          clear k0 HP HNP HA
          go_wp2_with fail
          refine ⟨⟨n + 1, by go_num, hlt, hq, hend _⟩, ?_⟩
          simp [intOf]
          go_num
        · have k0' : (dk != 0) = true := by simp [k0]
          by_cases k1 : dk < f
          · have hq := Lib.hid (HNP.out (decide_eq_false (by show ¬ (dk = 0 ∨ (f ≤ dk ∧ dk ≤ t)); omega)))
            clear k0 HP HNP HA
            go_wp2_with fail
            go_ret
            exact ⟨by rw [hq.out]; rfl, hend _⟩
          · have k1' : decide (dk < f) = false := decide_eq_false k1
            by_cases k2 : t < dk
            · have hq := Lib.hid (HNP.out (decide_eq_false (by show ¬ (dk = 0 ∨ (f ≤ dk ∧ dk ≤ t)); omega)))
              clear k0 HP HNP HA
              go_wp2_with fail
              go_ret
              exact ⟨by rw [hq.out]; rfl, hend _⟩
            · have hq := Lib.hid (HP.out (decide_eq_true (by show (dk = 0 ∨ (f ≤ dk ∧ dk ≤ t)); omega)))
              have k2' : decide (t < dk) = false := decide_eq_false k2
              clear k0 HP HNP HA
              go_wp2_with fail
              refine ⟨⟨n + 1, by go_num, hlt, hq, hend _⟩, ?_⟩
              simp [intOf]
              go_num
    · have hq : Hid (onlyR f t L = true) := by
        have := HA.out
        rw [List.take_of_length_le (by omega)] at this
        exact this
      clear HA
      go_wp2_with fail
      go_ret
      exact ⟨by rw [hq.out]; rfl, hb⟩

/-- Is a value among these? -/
def hasR (d : Dat) (L : List Dat) : Bool := L.any (fun x => decide (x.k = d.k ∧ x.i = d.i ∧ x.s = d.s))

theorem any_take {p : Dat → Bool} {L : List Dat} {n : Nat} (hn : n < L.length) (h : (L.take n).any p = false) (hp : p L[n] = false) : (L.take (n + 1)).any p = false := by
  rw [List.take_add_one, List.any_append, h, List.getElem?_eq_getElem hn]
  simpa using hp
theorem any_yes {p : Dat → Bool} {L : List Dat} {n : Nat} (hn : n < L.length) (hp : p L[n] = true) : L.any p = true := by
  rw [List.any_eq_true]
  exact ⟨_, List.getElem_mem hn, hp⟩

set_option maxHeartbeats 4000000 in
set_option maxRecDepth 100000 in
theorem has_any (d : Dat) (L : List Dat) (v : Value) (w : World) (hv : DatV w v L) :
    Calls Tryd.prog 51 #[v, datVal d] w fun e w' => e = .returned (.bool (hasR d L)) ∧ Below w.heap.size w w' := by
  obtain ⟨A, c, rfl, hc, hm⟩ := hv.len
  have HV := Lib.hid hv
  clear hv
  obtain ⟨ek, ei, es⟩ := d
  have hb0 := (Below.refl w.heap.size w).alloc (Nat.le_refl _) (.cells #[.int .i64 ek, .int .i64 ei, .string es] 24)
  have bD := Blk.new w #[.int .i64 ek, .int .i64 ei, .string es] 24
  go_enter Tryd.func51, Tryd.ntmps51
  go_wp2_with fail
  go_loopw [9] (fun i wr => ∃ n : Nat, i = .int .i64 n ∧ n ≤ L.length ∧ Hid ((L.take n).any (fun x => decide (x.k = ek ∧ x.i = ei ∧ x.s = es)) = false) ∧ Below w.heap.size w wr ∧ Blk wr w.heap.size #[.int .i64 ek, .int .i64 ei, .string es] 24) (fun i _ => L.length - (intOf i).toNat)
  case atStart => exact ⟨0, rfl, Nat.zero_le _, rfl, hb0, bD⟩
  case round =>
    clear hb0 bD
    obtain ⟨n, rfl, hn, HA, hb, bD⟩ := hrel
    have x0 := bD.cell 0
    have x1 := bD.cell 1
    have x2 := bD.cell 2
    simp only [List.getElem?_toArray, List.getElem?_cons_zero, List.getElem?_cons_succ] at x0 x1 x2
    by_cases hlt : n < L.length
    · rcases HV.out with ⟨_, h0⟩ | ⟨b, off, c', e, _, hbl, hat, _⟩
      · rw [h0] at hlt; simp at hlt
      · injection e with e1 e2 e3
        subst e1 e3
        obtain ⟨h0, h1, h2⟩ := (hat.block (hb.block b hbl)).dat n hlt
        clear hat hbl hn
        have HP : Hid (decide (L[n].k = ek ∧ L[n].i = ei ∧ L[n].s = es) = false → (L.take (n + 1)).any (fun x => decide (x.k = ek ∧ x.i = ei ∧ x.s = es)) = false) := fun hp => any_take hlt HA.out hp
        have HNP : Hid (decide (L[n].k = ek ∧ L[n].i = ei ∧ L[n].s = es) = true → hasR ⟨ek, ei, es⟩ L = true) := fun hp => any_yes hlt hp
        revert HP HNP h0 h1 h2
        generalize L[n] = d
        obtain ⟨dk, di, ds⟩ := d
        intro h0 h1 h2 HP HNP
        simp only at h0 h1 h2 HP HNP
        have hz := hb.size
        have hend := fun (o : Obj) => hb.alloc hz o
        have bDo := fun (o : Obj) => bD.alloc o
        unfold maxLen at hm
        have hn1 : (n : Int) + 1 ≤ 9223372036854775807 := by omega
        have x0o := fun (o : Obj) => (bD.alloc o).cell 0
        have x1o := fun (o : Obj) => (bD.alloc o).cell 1
        have x2o := fun (o : Obj) => (bD.alloc o).cell 2
        simp only [List.getElem?_toArray, List.getElem?_cons_zero, List.getElem?_cons_succ] at x0o x1o x2o
        have hE := fun w => run_eq_datum dk di ds ek ei es w
        clear HA
        by_cases hq : dk = ek ∧ di = ei ∧ ds = es
        · have hd := decide_eq_true hq
          have HR := Lib.hid (HNP.out hd)
          simp only [hd] at hE
          clear HP HNP hd hq
          go_wp2_with fail
          go_ret
          exact ⟨by rw [HR.out]; rfl, hend _⟩
        · have hd := decide_eq_false hq
          have HR := Lib.hid (HP.out hd)
          simp only [hd] at hE
          clear HP HNP hd hq
          go_wp2_with fail
          refine ⟨⟨n + 1, by go_num, hlt, HR, hend _, bDo _⟩, ?_⟩
          simp [intOf]
          go_num
    · have hq : Hid (hasR ⟨ek, ei, es⟩ L = false) := by
        have := HA.out
        rw [List.take_of_length_le (by omega)] at this
        exact this
      clear HA
      go_wp2_with fail
      go_ret
      exact ⟨by rw [hq.out]; rfl, hb⟩

theorem ord_neg (a b : Int) : ordI (-a) (-b) = - ordI a b := by unfold ordI; split <;> split <;> (try split) <;> omega

set_option maxHeartbeats 4000000 in
set_option maxRecDepth 100000 in
/-- Order: of two whole numbers. -/
theorem order_f (m1 m2 : Bool) (v1 v2 : Value) (L1 L2 : List Int) (w : World) (h1 : DigV w v1 L1) (h2 : DigV w v2 L2) (n1 : Norm L1) (n2 : Norm L2) (l1 : L1.length ≤ 5000) (s1 : m1 = true → 0 < L1.length) (s2 : m2 = true → 0 < L2.length) (z1 z2 : Int) (e1 : zOf m1 L1 = z1) (e2 : zOf m2 L2 = z2) :
    Calls Tryd.prog 53 #[.agg #[.bool m1, v1], .agg #[.bool m2, v2]] w (IntPost (ordI z1 z2) w) := by
  have HA := Lib.hid (fun w' (hb : Below w.heap.size w w') => amounts_any m1 m2 v1 v2 L1 L2 w' (h1.below hb) (h2.below hb) n1 n2 l1)
  have p1 := (valD_bound n1.1).1
  have p2 := (valD_bound n2.1).1
  have g1 : m1 = true → 0 < valD L1 := fun h => by
    have := n1.low 0 (s1 h)
    have e : pw 0 = 1 := rfl
    omega
  have g2 : m2 = true → 0 < valD L2 := fun h => by
    have := n2.low 0 (s2 h)
    have e : pw 0 = 1 := rfl
    omega
  obtain ⟨A1, c1, rfl, _, _⟩ := DigV.open h1
  obtain ⟨A2, c2, rfl, _, _⟩ := DigV.open h2
  have hb2 := ((Below.refl w.heap.size w).alloc (Nat.le_refl _) (Obj.cells #[.bool m1, .slice A1 L1.length c1] 74)).alloc (by simp) (Obj.cells #[.bool m2, .slice A2 L2.length c2] 74)
  have bA := (Blk.new w #[.bool m1, .slice A1 L1.length c1] 74).alloc (Obj.cells #[.bool m2, .slice A2 L2.length c2] 74)
  have hr : ∀ a b : Int, -1 ≤ ordI a b ∧ ordI a b ≤ 1 := fun a b => by
    have := ordI_cases a b
    omega
  have hr' := hr (valD L1) (valD L2)
  cases m1 <;> cases m2
  · have HR : Hid (ordI z1 z2 = ordI (valD L1) (valD L2)) := by unfold Hid; rw [← e1, ← e2]; rfl
    clear e1 e2 h1 h2 n1 n2 g1 g2 s1 s2
    go_enter Tryd.func53, Tryd.ntmps53
    go_wp2_with (go_at_call 75; have hC := HA.out _ hb2; (with_reducible refine hC.mono ?_); clear hC; rintro e w5 ⟨rfl, hb5⟩; have b5 := bA.below hb5; have x0 := b5.cell 0; simp only [List.getElem?_toArray, List.getElem?_cons_zero] at x0)
    go_ret
    exact ⟨by rw [HR.out]; rfl, hb2.trans (hb5.mono hb2.size)⟩
  · have HR : Hid (ordI z1 z2 = 1) := by
      have q := g2 rfl
      have e2' : -valD L2 = z2 := e2
      have e1' : valD L1 = z1 := e1
      unfold Hid ordI; rw [if_neg (by omega), if_pos (by omega)]
    clear e1 e2 h1 h2 n1 n2 g1 g2 s1 s2
    go_enter Tryd.func53, Tryd.ntmps53
    go_wp2_with fail
    go_ret
    exact ⟨by rw [HR.out]; rfl, hb2⟩
  · have HR : Hid (ordI z1 z2 = -1) := by
      have q := g1 rfl
      have e2' : valD L2 = z2 := e2
      have e1' : -valD L1 = z1 := e1
      unfold Hid ordI; rw [if_pos (by omega)]
    clear e1 e2 h1 h2 n1 n2 g1 g2 s1 s2
    go_enter Tryd.func53, Tryd.ntmps53
    go_wp2_with fail
    go_ret
    exact ⟨by rw [HR.out]; rfl, hb2⟩
  · have HR : Hid (ordI z1 z2 = - ordI (valD L1) (valD L2)) := by
      unfold Hid
      rw [← e1, ← e2]
      show ordI (-valD L1) (-valD L2) = _
      rw [ord_neg]
    clear e1 e2 h1 h2 n1 n2 g1 g2 s1 s2
    go_enter Tryd.func53, Tryd.ntmps53
    go_wp2_with (go_at_call 75; have hC := HA.out _ hb2; (with_reducible refine hC.mono ?_); clear hC; rintro e w5 ⟨rfl, hb5⟩; have b5 := bA.below hb5; have x0 := b5.cell 0; simp only [List.getElem?_toArray, List.getElem?_cons_zero] at x0)
    go_ret
    refine ⟨?_, hb2.trans (hb5.mono hb2.size)⟩
    rw [HR.out]; rfl

end Go.Proofs.YtimmgiiddckleaaDoor
