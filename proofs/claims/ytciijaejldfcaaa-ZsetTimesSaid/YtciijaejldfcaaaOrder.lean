/-
  The walk of the law ZsetOrder: it returns true of every list of counted rows, at every time.
-/
import Derived.Test.YtciijaejldfcaaaOrdP
import Derived.Test.YtciijaejldfcaaaKept
import Derived.StillTailTactics
import Derived.BigFrame
import Derived.Deep.RegionHeldLaw
import Derived.Deep.DrawnRows
namespace Go.Proofs.Ytciijaejldfcaaa
open Go.RowKit

section
variable {α : Type} {enc : α → List Value} {k : Nat}
theorem step_append_g {P : Program} (hk : ∀ x, (enc x).length = k) (hpos : 0 < k) (t e : TypeId) (i : TypeInfo) (z : Value) (bytes : Nat) (ht : P.underlying t = some (.slice e)) (hi : P.info? e = some i) (hz : i.zero = some z) (hsize : i.size = k) (hby : i.bytes = bytes) (hzs : z.cells.size = k)
    {ops : Array Oper} {o : Oper} {a : Act} {K : Act → World → Prop} {Q : Exit → Act → World → Prop} {E : Prop} (w : World) (hgd : o.guard = none) (s x : Operand)
    (ho : o.op = .call { callee := .builtin .append, args := #[s, x], argTypes := #[t, t] })
    (base : Nat) (v vx : Value) (l m : List α) (hs : a.eval s = v) (hx : a.eval x = vx) (hown : OwnG enc k e w base v l) (hr : ValG enc k w vx m) (h1 : ∀ x ∈ m, ∀ u ∈ enc x, u.oneCell' = true)
    (hm : l.length + m.length ≤ maxLen) (hlen : (l.length + m.length) * bytes ≤ 140737488355328) (hbase : base ≤ w.heap.size) (d : Option Nat) (hd : o.dst = d)
    (h : ∀ v' w', OwnG enc k e w' base v' (l ++ m) → w.grownBy w' v.ownBlock → K (a.put d v') w') :
    if Region.wanted o (yielded ops a.tmps) = true then Oper.wp P o a w K Q else E := by
  have hw : Region.wanted o (yielded ops a.tmps) = true := by simp [Region.wanted, hgd]
  rw [if_pos hw]
  subst hd
  obtain ⟨v', w', hrun, h2, h3⟩ := run_append_g hk hpos t e i z bytes ht hi hz hsize hby hzs w o.type base v vx l m hown hr h1 hm hlen hbase
  unfold Oper.wp execOp
  simp only [ho, resolve, invoke, builtin, Sem.run_bind, Sem.run_pure, Result.andThen_ok, List.map_toArray, List.map_cons, List.map_nil, hs, hx, hrun]
  exact h v' w' h2 h3
end

theorem one_two (A : Option Addr) (n c : Nat) (l : List Dat) (p q : Int) : ∀ x ∈ ([⟨.slice A n c, l, p⟩, ⟨.slice A n c, l, q⟩] : List Cnt), ∀ u ∈ encC x, u.oneCell' = true := by
  intro x hx u hu
  simp only [List.mem_cons, List.not_mem_nil, or_false] at hx
  rcases hx with rfl | rfl <;> (simp only [encC, List.mem_cons, List.not_mem_nil, or_false] at hu; rcases hu with rfl | rfl <;> rfl)
theorem one_up (A : Option Addr) (n c : Nat) (l : Int × List Dat) (p : Int) : ∀ x ∈ ([⟨.slice A n c, l, p⟩] : List Up.Cnt), ∀ u ∈ Up.encC x, u.oneCell' = true := by
  intro x hx u hu
  simp only [List.mem_cons, List.not_mem_nil, or_false] at hx
  subst hx
  simp only [Up.encC, List.mem_cons, List.not_mem_nil, or_false] at hu
  rcases hu with rfl | rfl | rfl <;> rfl
theorem half_wrap (n : Int) (h : -1000000 < n ∧ n < 1000000) : IntKind.i64.wrap (n - n.tdiv 2) = n - n.tdiv 2 := by
  have hq : -1000000 < n.tdiv 2 ∧ n.tdiv 2 < 1000000 := by
    rcases Int.le_total 0 n with h0 | h0
    · rw [Int.tdiv_eq_ediv_of_nonneg h0]; omega
    · have e : (-n).tdiv 2 = -(n.tdiv 2) := Int.neg_tdiv n 2
      rw [Int.tdiv_eq_ediv_of_nonneg (by omega)] at e
      omega
  generalize n.tdiv 2 = q at hq ⊢
  simp only [IntKind.wrap, IntKind.bits, IntKind.signed]
  simp
  split <;> omega

theorem alive_any (w : World) : Calls Try.prog 32 #[] w (BoolB true w) := by
  go_enter Try.func32, Try.ntmps32
  go_wp2_with (go_at_call 29; refine (known_any _).mono ?_; rintro e w1 ⟨rfl, hb1⟩)
  go_ret
  exact ⟨rfl, hb1⟩

/-- A list of counted rows of the call's own stays while one of updates grows. -/
theorem ownC_kept {w w' : World} {b1 b2 : Nat} {v u : Value} {K : List Cnt} {D : List Up.Cnt} (h : OwnC w b1 v K) (ho : Up.OwnC w b2 u D) (hg : w.grownBy w' u.ownBlock) : OwnC w' b1 v K := by
  refine OwnG.kept h hg ?_
  rcases OwnG.shape h with ⟨rfl, _⟩ | ⟨g, cap, rfl, _, _, _, _, _, cur, hh⟩
  · exact .inl rfl
  · right
    intro e
    rcases OwnG.shape ho with ⟨rfl, _⟩ | ⟨g', cap', rfl, _, _, _, _, _, cur', hh'⟩
    · cases e
    · injection e with e
      subst e
      rw [hh] at hh'
      injection hh' with hh'
      injection hh' with _ ht _
      cases ht
theorem ownU_kept {w w' : World} {b1 b2 : Nat} {v u : Value} {K : List Cnt} {D : List Up.Cnt} (h : Up.OwnC w b1 v D) (ho : OwnC w b2 u K) (hg : w.grownBy w' u.ownBlock) : Up.OwnC w' b1 v D := by
  refine OwnG.kept h hg ?_
  rcases OwnG.shape h with ⟨rfl, _⟩ | ⟨g, cap, rfl, _, _, _, _, _, cur, hh⟩
  · exact .inl rfl
  · right
    intro e
    rcases OwnG.shape ho with ⟨rfl, _⟩ | ⟨g', cap', rfl, _, _, _, _, _, cur', hh'⟩
    · cases e
    · injection e with e
      subst e
      rw [hh] at hh'
      injection hh' with hh'
      injection hh' with _ ht _
      cases ht

theorem valU_at (w : World) (b : Nat) (x : Up.Cnt) (h : b = w.heap.size) : Up.CntV (w.alloc (.cells #[x.v, .int .i64 x.l.1, .int .i64 x.n] 48)) (.slice (some ⟨b, 0, none⟩) 1 1) [x] := by
  subst h
  exact Up.valC_lit w x
theorem valC_two (w : World) (b : Nat) (x y : Cnt) (h : b = w.heap.size) : CntV (w.alloc (.cells #[x.v, .int .i64 x.n, y.v, .int .i64 y.n] 44)) (.slice (some ⟨b, 0, none⟩) 2 2) [x, y] := by
  subst h
  have hb := Blk.new w #[x.v, .int .i64 x.n, y.v, .int .i64 y.n] 44
  refine .inr ⟨w.heap.size, 0, 2, rfl, by simp [maxLen], by simp, ?_, Nat.le_refl _⟩
  intro i z hi r u hr
  match i, hi with
  | 0, hi =>
    simp only [List.getElem?_cons_zero, Option.some.injEq] at hi
    subst hi
    have h2 : r < 2 := by have := (List.getElem?_eq_some_iff.mp hr).1; simpa [encC] using this
    rw [show 0 + 0 * 2 + r = r by omega, hb.cell]
    match r, h2 with
    | 0, _ => simpa [encC] using hr
    | 1, _ => simpa [encC] using hr
  | 1, hi =>
    simp only [List.getElem?_cons_succ, List.getElem?_cons_zero, Option.some.injEq] at hi
    subst hi
    have h2 : r < 2 := by have := (List.getElem?_eq_some_iff.mp hr).1; simpa [encC] using this
    rw [show 0 + 1 * 2 + r = r + 2 by omega, hb.cell]
    match r, h2 with
    | 0, _ => simpa [encC] using hr
    | 1, _ => simpa [encC] using hr
  | i + 2, hi => simp at hi

theorem cnt_at' {w : World} {base : Nat} {A : Option Addr} {c : Nat} {K : List Cnt} (h : OwnC w base (.slice A K.length c) K) : K = [] ∨ ∃ b off, A = some ⟨b, off, none⟩ ∧ b < w.heap.size ∧ AtG encC 2 w b off K := by
  rcases h.val hkC with ⟨_, h⟩ | ⟨b, off, cap, h, _, hb, hat, _⟩
  · exact .inl h
  · injection h with h1 h2 h3
    exact .inr ⟨b, off, h1, hb, hat⟩

theorem info48 : (Try.prog.info? 48).map (fun i => (i.zero, i.size, i.bytes)) = some (some (.agg #[.slice none 0 0, .int .i64 0, .int .i64 0]), 3, 40) := Up.info48

set_option maxRecDepth 100000 in
set_option maxHeartbeats 16000000 in
theorem order_core (vx : Value) (X : List Cnt) (t : Int) (w : World) (ht0 : -9223372036854775808 ≤ t) (ht1 : t ≤ 9223372036854775807) (hvx : CntV w vx X) (hrx : RowsIn w X) (hbx : ∀ x ∈ X, RowB x.l) :
    Calls Try.prog 9 #[vx, .int .i64 t] w (BoolB true w) := by
  obtain ⟨j0, hj, hy0, hy1, hy2⟩ := info_parts info48
  have HJ := Lib.hid hj
  have HY0 := Lib.hid hy0
  have HY1 := Lib.hid hy1
  have HY2 := Lib.hid hy2
  clear hj hy0 hy1 hy2
  have HSX : Hid (∀ W, Below w.heap.size w W → Calls Try.prog 28 #[vx] W (SmallPost X W)) := fun W hW => small_ins vx X W (hvx.below hW) (hrx.below hW) hbx
  have HPX : Hid (∀ y ∈ plainC (smalls X), RowB y.1) := by
    intro y hy
    unfold plainC at hy
    obtain ⟨z, hz, rfl⟩ := List.mem_map.mp hy
    obtain ⟨x, hx, _, e2, _⟩ := smalls_mem hz
    rw [e2]; exact hbx x hx
  have HLX := Lib.hid (smalls_le X)
  have NX := smalls_len X
  have HRX : Hid (∀ W, Below w.heap.size w W → RowIns W (smalls X)) := fun W hW => rowIns_small (hrx.below hW) hbx
  have HNX : Hid (∀ x ∈ smalls X, -1000000 < x.n ∧ x.n < 1000000) := by
    intro x hx
    unfold smalls at hx
    obtain ⟨z, hz, rfl⟩ := List.mem_map.mp hx
    exact tmod_small z.n
  clear hvx hrx hbx
  revert HSX HPX HLX NX HRX HNX
  unfold SmallPost
  generalize smalls X = SX
  intro HSX HPX HLX NX HRX HNX
  obtain ⟨i0, hi, hz0, hz1, hz2⟩ := info_parts Try.info44
  have HI := Lib.hid hi
  have HZ0 := Lib.hid hz0
  have HZ1 := Lib.hid hz1
  have HZ2 := Lib.hid hz2
  clear hi hz0 hz1 hz2
  have plen : ∀ K : List Cnt, (plainC K).length = K.length := fun K => by unfold plainC; rw [List.length_map]
  have PL := Lib.hid plen
  clear plen
  have hc0 : Below w.heap.size w w := Below.refl _ _
  go_enter Try.func9, Try.ntmps9
  go_wp2_with fail
  refine (alive_any _).mono ?_
  rintro e w1 ⟨rfl, hb1⟩
  have hc1 := hc0.trans (hb1.mono hc0.size)
  go_wp2_with fail
  refine (HSX.out _ hc1).mono ?_
  rintro e w2 ⟨s1, rfl, hos1, his1, hb2⟩
  have Is1 := Lib.hid his1
  have Os1 := Lib.hid hos1
  clear his1 hos1
  have hc2 := hc1.trans (hb2.mono hc1.size)
  obtain ⟨As, cs, rfl⟩ := OwnC.shp Os1.out
  have HAS := Lib.hid (cnt_at' Os1.out)
  clear Os1
  go_wp2_with fail
  go_loopw [6, 8, 9] (fun a d i wr => ∃ m : Nat, m ≤ SX.length ∧ i = .int .i64 ((m : Int) - 1) ∧ Below w2.heap.size w2 wr ∧ Hid (OwnC wr w2.heap.size a (turnedL SX m) ∧ Up.OwnC wr w2.heap.size d (downL t SX m))) (fun _ _ i _ => (intOf i + 1).toNat)
  case atStart => exact ⟨SX.length, Nat.le_refl _, rfl, Below.refl _ _, ⟨by unfold turnedL; rw [List.drop_length]; exact OwnG.nil 44 _ _, by unfold downL; rw [List.drop_length]; exact OwnG.nil 48 _ _⟩⟩
  case round =>
    obtain ⟨m, hm, hi9, hb, HO⟩ := hrel
    have hz := hb.size
    cases m with
    | succ i =>
      have hi' : u9 = .int .i64 (i : Int) := by rw [hi9]; congr 1; omega
      subst hi'
      clear hi9
      obtain ⟨b, off, rfl, hbl, hat⟩ := HAS.out.resolve_left (by rintro rfl; simp at hm)
      have HT := Lib.hid (turned_step SX i hm)
      have HD := Lib.hid (down_step t SX i hm)
      obtain ⟨x, hx⟩ : ∃ x, SX[i] = x := ⟨_, rfl⟩
      have e0 := hat i x (by rw [← hx]; exact List.getElem?_eq_getElem hm) 0 _ rfl
      have e1 := hat i x (by rw [← hx]; exact List.getElem?_eq_getElem hm) 1 _ rfl
      rw [Nat.add_zero] at e0
      have c0 := (hb.cell (p := ⟨b, off + i * 2, none⟩) hbl).trans e0
      have c1 := (hb.cell (p := ⟨b, off + i * 2 + 1, none⟩) hbl).trans e1
      have hxm : x ∈ SX := by rw [← hx]; exact List.getElem_mem hm
      rw [hx] at HT HD
      obtain ⟨Ax, nx, cx, hxv⟩ : ∃ A n c, x.v = .slice A n c := by
        rcases (HRX.out w2 hc2).1 x hxm with ⟨_, _, h, _⟩ | ⟨b, o, c, h, _⟩
        · exact ⟨_, _, _, h⟩
        · exact ⟨_, _, _, h⟩
      have hnx := HNX.out x hxm
      clear hat hx hxm
      obtain ⟨xv, xl, xn⟩ := x
      subst hxv
      simp only at c0 c1 e0 e1 hnx
      have HCW : Hid (∀ w', Below w2.heap.size w2 w' → w'.cell? ⟨b, off + i * 2, none⟩ = some (.slice Ax nx cx) ∧ w'.cell? ⟨b, off + i * 2 + 1, none⟩ = some (.int .i64 xn)) := fun w' h => ⟨(h.cell (p := ⟨b, off + i * 2, none⟩) hbl).trans e0, (h.cell (p := ⟨b, off + i * 2 + 1, none⟩) hbl).trans e1⟩
      have HWR := Lib.hid (half_wrap xn hnx)
      clear e0 e1
      go_wp2_with fail
      obtain ⟨wo, rfl⟩ : ∃ wo : World, wo = wr := ⟨_, rfl⟩
      have hm2 : (i : Int) < (SX.length : Int) := by omega
      have hm3 : i < SX.length := by omega
      have HT' : Hid (turnedL SX i = turnedL SX (i + 1) ++ [⟨.slice Ax nx cx, xl, xn.tdiv 2⟩, ⟨.slice Ax nx cx, xl, xn - xn.tdiv 2⟩]) := HT
      have HD' : Hid (downL t SX i = downL t SX (i + 1) ++ [⟨.slice Ax nx cx, (t, xl), xn⟩]) := HD
      clear HT HD
      revert HT' HD'
      intro HT HD
      go_region_held_law (fun w' => w'.cell? ⟨b, off + i * 2, none⟩ = some (.slice Ax nx cx) ∧ w'.cell? ⟨b, off + i * 2 + 1, none⟩ = some (.int .i64 xn)) (first | exact HCW.out _ k3 | go_keep) ((refine step_append_g hkC (by decide) 22 44 i0 _ 32 Try.underlying22 HI.out HZ0.out HZ1.out HZ2.out rfl _ (by rfl) (.tmp 42) (.tmp 63) (by rfl) w2.heap.size u6 (.slice (some ⟨wo.heap.size, 0, none⟩) 2 2) (turnedL SX (i + 1)) [⟨.slice Ax nx cx, xl, xn.tdiv 2⟩, ⟨.slice Ax nx cx, xl, xn - xn.tdiv 2⟩] (by rfl) (by rfl) (HO.out.1.below ((Below.refl _ _).alloc (Nat.le_refl _) _).drew) (by rw [HWR.out]; exact ValG.below (valC_two wo _ ⟨.slice Ax nx cx, xl, xn.tdiv 2⟩ ⟨.slice Ax nx cx, xl, xn - xn.tdiv 2⟩ rfl) (Below.refl _ _).drew) (one_two _ _ _ _ _ _) (by rw [turned_len]; unfold maxLen; simp only [List.length_cons, List.length_nil]; omega) (by rw [turned_len]; simp only [List.length_cons, List.length_nil]; omega) (hb.alloc hz _).drew.size (some 64) (by rfl) ?_; intro v1 w3 ho1 hg1; have k3 : Below w2.heap.size w2 w3 := (hb.alloc hz _).drew.trans (OwnG.grown (HO.out.1.below ((Below.refl _ _).alloc (Nat.le_refl _) _).drew) (hb.alloc hz _).drew.size hg1); have HU3 : Hid (Up.OwnC w3 w2.heap.size u8 (downL t SX (i + 1))) := Lib.hid (ownU_kept (HO.out.2.below ((Below.refl _ _).alloc (Nat.le_refl _) _).drew) (HO.out.1.below ((Below.refl _ _).alloc (Nat.le_refl _) _).drew) hg1); have HO3 : Hid (OwnC w3 w2.heap.size v1 (turnedL SX i)) := Lib.hid (by rw [HT.out]; exact ho1)))
      clear HT
      rename_i K0 hK0 hS0
      change K0 _ _
      refine hK0 _ _ ?_
      clear hK0 hS0
      obtain ⟨wp, rfl⟩ : ∃ wp : World, wp = w3 := ⟨_, rfl⟩
      clear HO HWR hb hz c0 c1
      have hb := k3
      have hz := hb.size
      clear k3
      obtain ⟨c0, c1⟩ := HCW.out _ hb
      go_region_held_law (fun w' => w'.cell? ⟨b, off + i * 2, none⟩ = some (.slice Ax nx cx) ∧ w'.cell? ⟨b, off + i * 2 + 1, none⟩ = some (.int .i64 xn)) (first | exact HCW.out _ k5 | go_keep) ((refine step_append_g Up.hkC (by decide) 30 48 j0 _ 40 Try.underlying30 HJ.out HY0.out HY1.out HY2.out rfl _ (by rfl) (.tmp 65) (.tmp 78) (by rfl) w2.heap.size u8 (.slice (some ⟨wp.heap.size, 0, none⟩) 1 1) (downL t SX (i + 1)) [⟨.slice Ax nx cx, (t, xl), xn⟩] (by rfl) (by rfl) (HU3.out.below ((Below.refl _ _).alloc (Nat.le_refl _) _).drew) (ValG.below (valU_at wp _ ⟨.slice Ax nx cx, (t, xl), xn⟩ rfl) (Below.refl _ _).drew) (one_up _ _ _ _ _) (by rw [down_len]; unfold maxLen; simp only [List.length_cons, List.length_nil]; omega) (by rw [down_len]; simp only [List.length_cons, List.length_nil]; omega) (hb.alloc hz _).drew.size (some 79) (by rfl) ?_; intro v2 w5 ho2 hg2; have k5 : Below w2.heap.size w2 w5 := (hb.alloc hz _).drew.trans (OwnG.grown (HU3.out.below ((Below.refl _ _).alloc (Nat.le_refl _) _).drew) (hb.alloc hz _).drew.size hg2); have HO5 : Hid (OwnC w5 w2.heap.size v1 (turnedL SX i)) := Lib.hid (ownC_kept (HO3.out.below ((Below.refl _ _).alloc (Nat.le_refl _) _).drew) (HU3.out.below ((Below.refl _ _).alloc (Nat.le_refl _) _).drew) hg2); have HU5 : Hid (Up.OwnC w5 w2.heap.size v2 (downL t SX i)) := Lib.hid (by rw [HD.out]; exact ho2)))
      clear HD c0 c1 hb hz HO3 HU3 HCW
      rename_i hS0
      clear hS0
      try go_wp2_with fail
      go_round
      case rel => exact ⟨i, by omega, by congr 1, k5, ⟨HO5.out, HU5.out⟩⟩
      case measure => simp [intOf]
    | zero =>
      have hi' : u9 = .int .i64 (-1) := by rw [hi9]; rfl
      subst hi'
      clear hi9 hm
      have HO1 := Lib.hid HO.out.1
      have HD1 := Lib.hid HO.out.2
      clear HO
      obtain ⟨wo, rfl⟩ : ∃ wo : World, wo = wr := ⟨_, rfl⟩
      go_wp2_with fail
      go_loopw [7, 82] (fun a i wr => ∃ k : Nat, k ≤ SX.length ∧ i = .int .i64 k ∧ Below wo.heap.size wo wr ∧ Hid (Up.OwnC wr wo.heap.size a ((SX.take k).map (updC t)))) (fun _ i _ => SX.length - (intOf i).toNat)
      case atStart => exact ⟨0, Nat.zero_le _, rfl, Below.refl _ _, OwnG.nil 48 _ _⟩
      case round =>
        obtain ⟨k, hk, rfl, hbo, HO⟩ := hrel
        have hzo := hbo.size
        have hbw := hb.trans (hbo.mono hz)
        by_cases hlt : k < SX.length
        · obtain ⟨b, off, rfl, hbl, hat⟩ := HAS.out.resolve_left (by rintro rfl; simp at hlt)
          obtain ⟨x, hx⟩ : ∃ x, SX[k] = x := ⟨_, rfl⟩
          have e0 := hat k x (by rw [← hx]; exact List.getElem?_eq_getElem hlt) 0 _ rfl
          have e1 := hat k x (by rw [← hx]; exact List.getElem?_eq_getElem hlt) 1 _ rfl
          rw [Nat.add_zero] at e0
          have c0 := (hbw.cell (p := ⟨b, off + k * 2, none⟩) hbl).trans e0
          have c1 := (hbw.cell (p := ⟨b, off + k * 2 + 1, none⟩) hbl).trans e1
          have HX : Hid ((SX.take (k + 1)).map (updC t) = (SX.take k).map (updC t) ++ [updC t x]) := by
            unfold Hid
            rw [List.take_succ_eq_append_getElem hlt, List.map_append, hx]
            rfl
          have hxm : x ∈ SX := by rw [← hx]; exact List.getElem_mem hlt
          obtain ⟨Ax, nx, cx, hxv⟩ : ∃ A n c, x.v = .slice A n c := by
            rcases (HRX.out w2 hc2).1 x hxm with ⟨_, _, h, _⟩ | ⟨b, o, c, h, _⟩
            · exact ⟨_, _, _, h⟩
            · exact ⟨_, _, _, h⟩
          clear hat e0 e1 hx hxm
          obtain ⟨xv, xl, xn⟩ := x
          subst hxv
          simp only at c0 c1
          have hml : ((SX.take k).map (updC t)).length + 1 ≤ 61 := by rw [List.length_map, List.length_take]; omega
          go_wp2_with (at_builtin; have hb7 := (hbo.alloc hzo (.cells #[.slice Ax nx cx, .int .i64 xn] 44)).alloc (by simp; omega) (.cells #[.slice Ax nx cx, .int .i64 t, .int .i64 xn] 48); have HO7 := Lib.hid ((HO.out.alloc (.cells #[.slice Ax nx cx, .int .i64 xn] 44)).alloc (.cells #[.slice Ax nx cx, .int .i64 t, .int .i64 xn] 48)); have HV7 := Lib.hid (valU_at (wr.alloc (.cells #[.slice Ax nx cx, .int .i64 xn] 44)) (wr.heap.size + 1) (updC t ⟨.slice Ax nx cx, xl, xn⟩) (by simp)); refine wpList_append_g Up.hkC (by decide) 30 48 j0 _ 40 Try.underlying30 HJ.out HY0.out HY1.out HY2.out rfl _ rfl (.tmp 86) (.tmp 93) rfl wo.heap.size _ _ ((SX.take k).map (updC t)) [updC t ⟨.slice Ax nx cx, xl, xn⟩] rfl rfl HO7.out HV7.out (one_up _ _ _ _ _) (by unfold maxLen; simp only [List.length_singleton]; omega) (by simp only [List.length_singleton]; omega) (by simp; omega) ?_; intro v8 w8 ho8 hg8)
          have hb8 := hb7.trans (OwnG.grown HO7.out (by simp; omega) hg8)
          go_roundw
          case rel => exact ⟨k + 1, by omega, by go_num, hb8, by rw [HX.out]; exact ho8⟩
          case measure => simp [intOf]; omega
        · obtain rfl : k = SX.length := by omega
          have HU1 : Hid (Up.OwnC wr wo.heap.size u7 (SX.map (updC t))) := by
            have := HO.out
            rwa [List.take_length] at this
          clear HO
          have hcr := hc2.trans (hbw.mono hc2.size)
          replace Is1 := Lib.hid (Is1.out.below hbw)
          have HRR := Lib.hid (HRX.out wr hcr)
          have TR := turned_rows HRR.out HNX.out 0
          have Dt : Hid (CntIns wr u6 (turnedL SX 0)) := ⟨(HO1.out.below hbo).val hkC, TR.1, TR.2, by rw [turned_len]; omega⟩
          have HPT : Hid (∀ y ∈ plainC (turnedL SX 0), RowB y.1) := by
            intro y hy
            unfold plainC at hy
            obtain ⟨z, hz, rfl⟩ := List.mem_map.mp hy
            exact (TR.2 z hz).1
          have HLT : Hid (CntLe 60000000 (plainC (turnedL SX 0))) := fun r => by rw [cnt_turned]; exact HLX.out r
          have DD := upd_rows (t := t) HRR.out (downL t SX 0) (by intro y hy; unfold downL at hy; obtain ⟨x, hx, rfl⟩ := List.mem_map.mp hy; exact ⟨x, List.mem_of_mem_drop (List.mem_reverse.mp hx), rfl⟩)
          have UU := upd_rows (t := t) HRR.out (SX.map (updC t)) (by intro y hy; obtain ⟨x, hx, rfl⟩ := List.mem_map.mp hy; exact ⟨x, hx, rfl⟩)
          have Du : Hid (Up.UpdIns wr u8 (downL t SX 0)) := ⟨(HD1.out.below hbo).val Up.hkC, DD.1, DD.2, by rw [down_len]; omega⟩
          have Uu : Hid (Up.UpdIns wr u7 (SX.map (updC t))) := ⟨HU1.out.val Up.hkC, UU.1, UU.2, by rw [List.length_map]; omega⟩
          have HPU : Hid (∀ y ∈ Up.plainC (SX.map (updC t)), RowB y.1.2) := by
            intro y hy
            unfold Up.plainC at hy
            obtain ⟨z, hz, rfl⟩ := List.mem_map.mp hy
            exact (UU.2 z hz).1
          have HPD : Hid (∀ y ∈ Up.plainC (downL t SX 0), RowB y.1.2) := by
            intro y hy
            unfold Up.plainC at hy
            obtain ⟨z, hz, rfl⟩ := List.mem_map.mp hy
            exact (DD.2 z hz).1
          have HFU : Hid (∀ k, fitsB (1 * Up.cntR (Up.plainC (SX.map (updC t))) k) = true) := by
            intro k
            rw [cnt_upd]
            split
            · exact (HLX.out.fit (by decide)).1 k.2
            · rfl
          have HFD : Hid (∀ k, fitsB (1 * Up.cntR (Up.plainC (downL t SX 0)) k) = true) := fun k => by rw [cnt_down]; exact HFU.out k
          have plu : ∀ K : List Up.Cnt, (Up.plainC K).length = K.length := fun K => by unfold Up.plainC; rw [List.length_map]
          have PLU := Lib.hid plu
          have HREV : Hid (∀ r, cntR (plainC SX.reverse) r = cntR (plainC SX) r) := fun r => cntR_perm (by unfold plainC; exact (List.reverse_perm SX).map _) r
          have HPR : Hid (∀ y ∈ plainC SX.reverse, RowB y.1) := by
            intro y hy
            unfold plainC at hy
            obtain ⟨z, hz, rfl⟩ := List.mem_map.mp hy
            exact HPX.out _ (List.mem_map_of_mem (List.mem_reverse.mp hz))
          have HLR : Hid (CntLe 60000000 (plainC SX.reverse)) := fun r => by rw [HREV.out]; exact HLX.out r
          have HATD := Lib.hid (at_down t SX)
          clear plu TR DD UU HRR HO1 HD1 HU1 HSX HAS HRX HNX HI HZ0 HZ1 HZ2 HJ HY0 HY1 HY2 hb hz hbo hzo hbw hk
          go_wp2_with fail
          have hr2 := Below.refl wr.heap.size wr
          refine (tidy_ok _ _ _ Is1.out ((HLX.out.fit (by decide)).1)).mono ?_
          rintro e w3 ⟨a, Ka, rfl, hb3, hta, hoa, hfa, hla⟩
          rw [PL.out] at hla
          have Ia := Lib.hid (tid_ins hta hoa hfa (HPX.out) (by omega))
          have Ta := Lib.hid hta
          obtain ⟨Aa, ca, rfl⟩ := OwnC.shp hoa
          clear hta hoa hfa
          have hk3 := hr2.trans (hb3.mono hr2.size)
          replace Is1 := Lib.hid (Is1.out.below hk3)
          replace Dt := Lib.hid (Dt.out.below hk3)
          replace Du := Lib.hid (Du.out.below hk3)
          replace Uu := Lib.hid (Uu.out.below hk3)
          have hc3 := hcr.trans (hk3.mono hcr.size)
          go_wp2_with fail
          have hr3 := Below.refl w3.heap.size w3
          refine (tidy_ok _ _ _ Dt.out ((HLT.out.fit (by decide)).1)).mono ?_
          rintro e w4 ⟨b, Kb, rfl, hb4, htb, hob, hfb, hlb⟩
          rw [PL.out] at hlb
          have Ib := Lib.hid (tid_ins htb hob hfb (HPT.out) (by rw [turned_len] at hlb; omega))
          have Tb := Lib.hid htb
          obtain ⟨Ab, cb, rfl⟩ := OwnC.shp hob
          clear htb hob hfb
          have hk4 := hr3.trans (hb4.mono hr3.size)
          replace Is1 := Lib.hid (Is1.out.below hk4)
          replace Dt := Lib.hid (Dt.out.below hk4)
          replace Du := Lib.hid (Du.out.below hk4)
          replace Uu := Lib.hid (Uu.out.below hk4)
          replace Ia := Lib.hid (Ia.out.below hk4)
          have hc4 := hc3.trans (hk4.mono hc3.size)
          go_wp2_with fail
          refine (Up.settle_ok _ _ _ Uu.out HFU.out).mono ?_
          rintro e w5 ⟨x, Kx, rfl, hb5, htx, hox, hfx, hlx⟩
          rw [PLU.out] at hlx
          have Ix := Lib.hid (Up.tid_ins htx hox hfx (HPU.out) (by rw [List.length_map] at hlx; omega))
          have Tx := Lib.hid htx
          obtain ⟨Ax, cx, rfl⟩ := Up.OwnC.shp hox
          clear htx hox hfx
          replace Is1 := Lib.hid (Is1.out.below hb5)
          replace Dt := Lib.hid (Dt.out.below hb5)
          replace Du := Lib.hid (Du.out.below hb5)
          replace Uu := Lib.hid (Uu.out.below hb5)
          replace Ia := Lib.hid (Ia.out.below hb5)
          replace Ib := Lib.hid (Ib.out.below hb5)
          have hc5 := hc4.trans (hb5.mono hc4.size)
          go_wp2_with fail
          refine (Up.settle_ok _ _ _ Du.out HFD.out).mono ?_
          rintro e w6 ⟨y, Ky, rfl, hb6, hty, hoy, hfy, hly⟩
          rw [PLU.out] at hly
          have Iy := Lib.hid (Up.tid_ins hty hoy hfy (HPD.out) (by rw [down_len] at hly; omega))
          have Ty := Lib.hid hty
          obtain ⟨Ay, cy, rfl⟩ := Up.OwnC.shp hoy
          clear hty hoy hfy
          replace Is1 := Lib.hid (Is1.out.below hb6)
          replace Dt := Lib.hid (Dt.out.below hb6)
          replace Du := Lib.hid (Du.out.below hb6)
          replace Uu := Lib.hid (Uu.out.below hb6)
          replace Ia := Lib.hid (Ia.out.below hb6)
          replace Ib := Lib.hid (Ib.out.below hb6)
          replace Ix := Lib.hid (Ix.out.below hb6)
          have hc6 := hc5.trans (hb6.mono hc5.size)
          have CAT : Hid (Calls Try.prog 23 #[u8, .int .i64 t] w6 (TidOk 1 (plainC SX.reverse) w6)) := by
            have h := Up.at_ok u8 (downL t SX 0) t w6 Du.out (by rw [HATD.out]; exact (HLR.out.fit (by decide)).1)
            rw [HATD.out] at h
            exact h
          go_wp2_with fail
          refine (CAT.out).mono ?_
          rintro e w7 ⟨v, Kt, rfl, hb7, htv, hov, hfv, hlv⟩
          clear CAT
          rw [PL.out] at hlv
          have Iv := Lib.hid (tid_ins htv hov hfv HPR.out (by rw [List.length_reverse] at hlv; omega))
          have Tv := Lib.hid htv
          obtain ⟨Av, cv, rfl⟩ := OwnC.shp hov
          clear htv hov hfv
          replace Is1 := Lib.hid (Is1.out.below hb7)
          replace Dt := Lib.hid (Dt.out.below hb7)
          replace Du := Lib.hid (Du.out.below hb7)
          replace Uu := Lib.hid (Uu.out.below hb7)
          replace Ia := Lib.hid (Ia.out.below hb7)
          replace Ib := Lib.hid (Ib.out.below hb7)
          replace Ix := Lib.hid (Ix.out.below hb7)
          replace Iy := Lib.hid (Iy.out.below hb7)
          have hc7 := hc6.trans (hb7.mono hc6.size)
          obtain ⟨s0, hs0⟩ : ∃ s0, wrap64 (t - 1) = s0 := ⟨_, rfl⟩
          have hsm : t ≠ -9223372036854775808 → s0 < t := by
            intro h
            rw [← hs0]
            unfold wrap64
            omega
          have HCA := Lib.hid (at_le 60000000 (by decide) t s0 SX HLX.out)
          obtain ⟨AH, hAH⟩ : ∃ AH, Up.atC (SX.map (updC t)) s0 = AH := ⟨_, rfl⟩
          have HA0 : Hid (t ≠ -9223372036854775808 → AH = []) := fun h => by rw [← hAH]; exact at_ahead t s0 SX (hsm h)
          have HPA : Hid (∀ y ∈ plainC AH, RowB y.1) := by
            intro y hy
            unfold plainC at hy
            obtain ⟨z, hz, rfl⟩ := List.mem_map.mp hy
            rw [← hAH] at hz
            obtain ⟨q, hq, _, e2, _⟩ := Up.atC_mem hz
            obtain ⟨p, hp, rfl⟩ := List.mem_map.mp hq
            rw [e2]
            exact HPX.out (p.l, p.n) (by unfold plainC; exact List.mem_map_of_mem hp)
          have CAA : Hid (Calls Try.prog 23 #[u7, .int .i64 s0] w7 (TidOk 1 (plainC AH) w7)) := by
            have h := Up.at_ok u7 (SX.map (updC t)) s0 w7 Uu.out (by rw [hAH]; rw [hAH] at HCA; exact (HCA.out.fit (by decide)).1)
            rw [hAH] at h
            exact h
          have hAl : AH.length ≤ 60 := by rw [← hAH]; exact Nat.le_trans (Up.atC_len _ _) (by rw [List.length_map]; omega)
          clear hsm hAH
          go_wp2_with fail
          rw [hs0]
          clear hs0
          refine CAA.out.mono ?_
          rintro e w8 ⟨z, Kz, rfl, hb8, htz, hoz, hfz, hlz⟩
          clear CAA
          rw [PL.out] at hlz
          have HZL : Hid (t ≠ -9223372036854775808 → Kz.length = 0) := fun h => by rw [HA0.out h] at hlz; simpa using hlz
          obtain ⟨Az, cz, rfl⟩ := OwnC.shp hoz
          clear htz hoz hfz hlz HA0 HPA HCA hAl
          replace Is1 := Lib.hid (Is1.out.below hb8)
          replace Dt := Lib.hid (Dt.out.below hb8)
          replace Du := Lib.hid (Du.out.below hb8)
          replace Uu := Lib.hid (Uu.out.below hb8)
          replace Ia := Lib.hid (Ia.out.below hb8)
          replace Ib := Lib.hid (Ib.out.below hb8)
          replace Ix := Lib.hid (Ix.out.below hb8)
          replace Iy := Lib.hid (Iy.out.below hb8)
          replace Iv := Lib.hid (Iv.out.below hb8)
          have hc8 := hc7.trans (hb8.mono hc7.size)
          have hab : plainC Ka = plainC Kb := Ta.out.unique Tb.out fun r => by rw [cnt_turned]
          have hxy : Up.plainC Kx = Up.plainC Ky := Tx.out.unique Ty.out fun r => by rw [cnt_down]
          have hva : plainC Kt = plainC Ka := Tv.out.unique Ta.out fun r => by rw [HREV.out]
          have hxl : Kx.length = Ka.length := by
            have h := Tx.out.unique (upd_tid (t := t) Ta.out) fun r => rfl
            have h2 := congrArg List.length h
            rw [PLU.out, List.length_map, PL.out] at h2
            exact h2
          have HK1 : Hid (∀ W, Below w8.heap.size w8 W → Calls Try.prog 15 #[.slice Aa Ka.length ca, .slice Ab Kb.length cb] W (BoolB true W)) := fun W hW => like_any _ _ Ka Kb W (Ia.out.below hW).1 (Ib.out.below hW).1 (Ia.out.below hW).2.1 (Ib.out.below hW).2.1 hab (by omega)
          have HK2 := Lib.hid (fun W (hW : Below w8.heap.size w8 W) => Up.like_any _ _ Kx Ky W (Ix.out.below hW).1 (Iy.out.below hW).1 (Ix.out.below hW).2.1 (Iy.out.below hW).2.1 hxy (by rw [List.length_map] at hlx; omega))
          have HK3 : Hid (∀ W, Below w8.heap.size w8 W → Calls Try.prog 15 #[.slice Av Kt.length cv, .slice Aa Ka.length ca] W (BoolB true W)) := fun W hW => like_any _ _ Kt Ka W (Iv.out.below hW).1 (Ia.out.below hW).1 (Iv.out.below hW).2.1 (Ia.out.below hW).2.1 hva (by rw [List.length_reverse] at hlv; omega)
          have HXL := Lib.hid hxl
          clear hab hxy hva hxl Ta Tb Tx Ty Tv Ia Ib Ix Iy Iv Is1 Dt Du Uu HPT HLT HPU HPD HFU HFD PLU HREV HPR HLR HATD HPX HLX PL hla hlb hlx hly hlv
          by_cases htm : t = -9223372036854775808
          · subst htm
            have hk0 := Below.refl w8.heap.size w8
            go_wp2_with fail
            refine (HK1.out _ hk0).mono ?_
            rintro e w9 ⟨rfl, hb9⟩
            have hk1 := hk0.trans (hb9.mono hk0.size)
            go_wp2_with fail
            refine (HK2.out _ hk1).mono ?_
            rintro e w10 ⟨rfl, hb10⟩
            have hk2 := hk1.trans (hb10.mono hk1.size)
            have hxb : ((Kx.length : Int) == (Ka.length : Int)) = true := by rw [HXL.out]; simp
            go_wp2_with fail
            refine (HK3.out _ hk2).mono ?_
            rintro e w11 ⟨rfl, hb11⟩
            have hk3 := hk2.trans (hb11.mono hk2.size)
            go_wp2_with fail
            go_ret
            exact ⟨rfl, hc8.trans (hk3.mono hc8.size)⟩
          · have htb : (t == -9223372036854775808) = false := by simpa using htm
            have hz0 := HZL.out htm
            have hk0 := Below.refl w8.heap.size w8
            go_wp2_with fail
            refine (HK1.out _ hk0).mono ?_
            rintro e w9 ⟨rfl, hb9⟩
            have hk1 := hk0.trans (hb9.mono hk0.size)
            go_wp2_with fail
            refine (HK2.out _ hk1).mono ?_
            rintro e w10 ⟨rfl, hb10⟩
            have hk2 := hk1.trans (hb10.mono hk1.size)
            have hxb : ((Kx.length : Int) == (Ka.length : Int)) = true := by rw [HXL.out]; simp
            go_wp2_with fail
            refine (HK3.out _ hk2).mono ?_
            rintro e w11 ⟨rfl, hb11⟩
            have hk3 := hk2.trans (hb11.mono hk2.size)
            go_wp2_with fail
            go_ret
            exact ⟨rfl, hc8.trans (hk3.mono hc8.size)⟩

end Go.Proofs.Ytciijaejldfcaaa
