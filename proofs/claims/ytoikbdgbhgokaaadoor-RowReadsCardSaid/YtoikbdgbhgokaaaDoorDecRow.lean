/-
  The contract of row's Decode: the row whose bytes a string is, in new memory, or the error; it makes memory of its own alone.
-/
import Derived.Test.YtoikbdgbhgokaaaDoorCutVal
import Derived.Test.YtoikbdgbhgokaaaDoorDatRow
namespace Go.Proofs.YtoikbdgbhgokaaaDoor
open Go.RowKit

/-- The row whose bytes a string is, of at most n values. -/
def decR : Nat → List UInt8 → Option (List Dat)
  | _, [] => some []
  | 0, _ :: _ => none
  | n + 1, x :: l => (decV (x :: l)).bind fun p => (decR n p.2).map (p.1 :: ·)

/-- Decode answers c: a row in new memory, or the error. -/
def DecPost (c : Option (List Dat)) (w : World) (e : Ending) (w' : World) : Prop :=
  Below w.heap.size w w' ∧ match c with
  | some l => ∃ v, e = .returned (.tuple #[v, .int .i64 0]) ∧ OwnD w' w.heap.size v l
  | none => e = .returned (.tuple #[.slice none 0 0, .int .i64 20])

def strLen (v : Value) : Nat := match v with | .string s => s.size | _ => 0

theorem decV_len (l : List UInt8) (d : Dat) (t : List UInt8) (h : decV l = some (d, t)) : t.length < l.length := by
  have := (decV_sound l d t h).1
  rw [this, List.length_append]
  unfold encD
  simp only [List.length_cons]
  omega

theorem OwnD.shape {w : World} {base : Nat} {v : Value} {l : List Dat} (h : OwnD w base v l) : ∃ A c, v = .slice A l.length c := by
  rcases h.2 with ⟨rfl, h0⟩ | ⟨g, cap, cur, rfl, _⟩
  · exact ⟨none, 0, by rw [h0]⟩
  · exact ⟨_, _, rfl⟩

theorem run_copy_dats (w : World) (ty : TypeId) (g cap n c : Nat) (a : Addr) (cur : Array Value) (cs : List Value) (hg : w.heap[g]? = some (.cells cur 37 (0, 0))) (hn : cs.length = n * 3)
    (hsrc : ∀ j v, cs[j]? = some v → w.cell? (a.add j) = some v) (hfit : cs.length ≤ cur.size) (h1 : ∀ v ∈ cs, v.oneCell' = true) :
    (Builtin.copy_ #[23, 23] ty #[.slice (some ⟨g, 0, none⟩) n cap, .slice (some a) n c]).run Tryd.prog w = .ok (goInt n) (w.setRow g (cs ++ cur.toList.drop cs.length).toArray) := by
  obtain ⟨i0, hi, hz0, hz1, hz2⟩ := info_parts Tryd.info37
  have hl := run_loadCells_list (P := Tryd.prog) w a cs hsrc
  have hst := run_storeCells_at Tryd.prog g 0 37 cs 0 cur w hg (by simpa using hfit) h1
  rw [hn] at hl
  simp only [Nat.zero_add, List.take_zero, List.nil_append] at hst
  simp [Builtin.copy_, run_underlying Tryd.underlying23, Builtin.lenOf, Builtin.firstCells, sizeOf, typeInfo, hi, hz1, hl, hst]

/-- What the call owns, copied into a new row of just that length. -/
theorem run_copy_own (w : World) (ty : TypeId) (base base2 g : Nat) (v : Value) (l : List Dat) (cur : Array Value) (ho : OwnD w base v l) (hg : w.heap[g]? = some (.cells cur 37 (0, 0))) (hc : cur.size = l.length * 3) (hb : base2 ≤ g) (hm : l.length ≤ maxLen) :
    ∃ w', (Builtin.copy_ #[23, 23] ty #[.slice (some ⟨g, 0, none⟩) l.length l.length, v]).run Tryd.prog w = .ok (goInt l.length) w' ∧ OwnD w' base2 (.slice (some ⟨g, 0, none⟩) l.length l.length) l ∧ w.grownBy w' (some g) := by
  rcases ho.2 with ⟨rfl, h0⟩ | ⟨g2, cap, cur2, rfl, _⟩
  · have hl : l = [] := List.eq_nil_of_length_eq_zero h0
    subst hl
    refine ⟨w, run_copy_nil Tryd.prog w 23 23 ty 37 ⟨g, 0, none⟩ 0 0 Tryd.underlying23 (by kernel_rfl), ?_, ⟨rfl, rfl, rfl, Nat.le_refl _, fun _ _ _ => rfl⟩⟩
    exact ⟨rfl, .inr ⟨g, 0, cur, rfl, hb, hg, by omega, by omega, hc, by simp⟩⟩
  · have hcells := ho.cells (g := g2) rfl
    have hr := run_copy_dats w ty g l.length l.length cap ⟨g2, 0, none⟩ cur (l.flatMap cellsD) hg (cells_len l) hcells (by rw [cells_len, hc]; exact Nat.le_refl _)
      (by intro u hu; simp only [List.mem_flatMap] at hu; obtain ⟨d, _, hd⟩ := hu; simp [cellsD] at hd; rcases hd with rfl | rfl | rfl <;> rfl)
    have hd : cur.toList.drop (l.flatMap cellsD).length = [] := List.drop_eq_nil_of_le (by rw [cells_len, Array.length_toList, hc]; exact Nat.le_refl _)
    rw [hd, List.append_nil] at hr
    refine ⟨_, hr, ⟨cells_len l, .inr ⟨g, l.length, _, rfl, hb, setRow_heap w g cur _ 37 _ hg, Nat.le_refl _, hm, by rw [List.size_toArray, cells_len], ?_⟩⟩, ⟨rfl, rfl, rfl, by simp [World.setRow], fun k _ hk => setRow_other w g k _ (fun e => hk (by rw [e]))⟩⟩
    exact List.take_of_length_le (by rw [cells_len]; exact Nat.le_refl _)

theorem wpList_copy_dats {ops : Array Oper} {rest : List Oper} {o : Oper} {a : Act} {Q : Exit → Act → World → Prop} (w : World) (hgd : o.guard = none) (d s : Operand)
    (ho : o.op = .call { callee := .builtin .copy, args := #[d, s], argTypes := #[23, 23] })
    (base base2 g : Nat) (v : Value) (l : List Dat) (cur : Array Value) (hd : a.eval d = .slice (some ⟨g, 0, none⟩) l.length l.length) (hs : a.eval s = v) (hown : OwnD w base v l)
    (hg : w.heap[g]? = some (.cells cur 37 (0, 0))) (hc : cur.size = l.length * 3) (hb : base2 ≤ g) (hm : l.length ≤ maxLen)
    (h : ∀ w', OwnD w' base2 (.slice (some ⟨g, 0, none⟩) l.length l.length) l → w.grownBy w' (some g) → wpList Tryd.prog ops Q rest (a.put o.dst (goInt l.length)) w') : wpList Tryd.prog ops Q (o :: rest) a w :=
  wpList_plain hgd fun _ hK => by
    obtain ⟨w', hrun, h2, h3⟩ := run_copy_own w o.type base base2 g v l cur hown hg hc hb hm
    unfold Oper.wp
    simp [execOp, ho, resolve, invoke, builtin, hd, hs, hrun, Result.andThen]
    exact hK _ _ (h w' h2 h3)

theorem run_make_dats (n : Nat) (hn : n ≤ 1000) : ∃ C : Array Value, C.size = n * 3 ∧ ∀ W : World, (Instr.makeSlice 23 (.int .i64 (n : Int)) (.int .i64 (n : Int))).run Tryd.prog W = .ok (.slice (some ⟨W.heap.size, 0, none⟩) n n) (W.alloc (.cells C 37)) := by
  obtain ⟨i0, hi, hz0, hz1, hz2⟩ := info_parts Tryd.info37
  refine ⟨madeCells (Value.cells (.agg #[.int .i64 0, .int .i64 0, .string ⟨#[]⟩])) (n * 3), size_madeCells _ _, fun W => ?_⟩
  have hr := run_make (P := Tryd.prog) W 23 37 i0 _ Tryd.underlying23 hi hz0 .i64 .i64 n n (by omega) (Int.le_refl _) (by rw [hz2]; omega) (by omega)
  simp only [Int.toNat_natCast, hz1] at hr
  exact hr

theorem rowV_lit (W : World) (d : Dat) (g : Nat) (hg : g = W.heap.size) : RowV (W.alloc (.cells #[.int .i64 d.k, .int .i64 d.i, .string d.s] 37)) (.slice (some ⟨g, 0, none⟩) 1 1) [d] := by
  subst hg
  refine .inr ⟨W.heap.size, 0, 1, rfl, by simp [maxLen], by simp, ?_⟩
  intro k e hk
  cases k with
  | zero =>
    simp only [List.getElem?_cons_zero, Option.some.injEq] at hk
    subst hk
    have hb := Blk.new W #[.int .i64 d.k, .int .i64 d.i, .string d.s] 37
    exact ⟨hb.cell 0, hb.cell 1, hb.cell 2⟩
  | succ k => simp at hk

set_option maxRecDepth 100000 in
set_option maxHeartbeats 4000000 in
theorem decode_any (s : ByteArray) (w : World) (hs : s.size ≤ 140737488355328) (hT : Tabs w) :
    Calls Tryd.prog 17 #[.string s] w (DecPost (decR 1000 s.data.toList) w) := by
  have HT := Lib.hid hT
  clear hT
  go_enter Tryd.func17, Tryd.ntmps17
  go_wp2
  go_loopw [0, 4] (fun q u wr => ∃ (t : ByteArray) (l : List Dat), q = .string t ∧ t.size ≤ s.size ∧ OwnD wr w.heap.size u l ∧ l.length ≤ 1000 ∧ Below w.heap.size w wr ∧ Hid ((decR (1000 - l.length) t.data.toList).map (l ++ ·) = decR 1000 s.data.toList)) (fun q _ _ => strLen q)
  case atStart => exact ⟨s, [], rfl, by omega, OwnD.nil w _, by simp, Below.refl _ _, by unfold Hid; simp⟩
  case round =>
    obtain ⟨t, l, rfl, ht, ho, hl, hb, HR⟩ := hrel
    have hz := hb.size
    obtain ⟨A, c, rfl⟩ := ho.shape
    by_cases h0 : t.size = 0
    · obtain ⟨C, hC, hmk⟩ := run_make_dats l.length hl
      have HMK := Lib.hid hmk
      have hmk' := hmk wr
      have hne : t.toList = [] := by rw [ByteArray.toList_eq]; exact toL_nil t h0
      have hne2 : t.toList.isEmpty = true := by rw [hne]; rfl
      have HV : Hid (decR 1000 s.data.toList = some l) := by
        unfold Hid
        rw [← HR.out, toL_nil t h0]
        cases 1000 - l.length <;> simp [decR]
      have HG : Hid ((wr.alloc (.cells C 37)).heap[wr.heap.size]? = some (.cells C 37 (0, 0))) := heap_alloc_new _ _
      have HO : Hid (OwnD (wr.alloc (.cells C 37)) w.heap.size (.slice A l.length c) l) := ho.alloc _
      clear hmk HR ho h0
      go_wp2_with (refine wpList_copy_dats _ rfl (.tmp 32) (.tmp 33) rfl w.heap.size w.heap.size wr.heap.size _ l C rfl rfl HO.out HG.out hC hz (by unfold maxLen; omega) ?_)
      intro w1 ho1 hg
      have hb1 := Below.trans (hb.alloc hz (.cells C 37)) ((Below.refl w.heap.size _).grown hg (by simp; omega) (fun k hk => by injection hk with hk; omega))
      clear hg
      go_wp2
      go_ret2
      refine ⟨hb1, ?_⟩
      rw [HV.out]
      exact ⟨_, rfl, ho1⟩
    · have hne : ¬ t.toList = [] := by
        intro e
        rw [ByteArray.toList_eq] at e
        have := toL_len t
        rw [e] at this
        exact h0 this.symm
      have hne2 : t.toList.isEmpty = false := by simpa using hne
      obtain ⟨x, r, hxr⟩ : ∃ x r, t.data.toList = x :: r := by
        cases h : t.data.toList with
        | nil => exact absurd (by rw [ByteArray.toList_eq]; exact h) hne
        | cons x r => exact ⟨x, r, rfl⟩
      have HC : Hid (Calls Tryd.prog 32 #[.string t] wr (CutPost (decV t.data.toList) wr)) := cutVal_any t wr (by omega) (by omega) (HT.out.below hb)
      cases hdv : decV t.data.toList with
      | none =>
        have HV : Hid (decR 1000 s.data.toList = none) := by
          unfold Hid
          rw [← HR.out, hxr]
          rw [hxr] at hdv
          cases 1000 - l.length with
          | zero => rfl
          | succ n => simp [decR, hdv]
        rw [hdv] at HC
        clear hdv HR hxr h0
        go_wp2_with (go_at_call 32; refine HC.out.mono ?_; rintro e w1 ⟨hb1, k5, i5, t5, b5, rfl⟩)
        go_ret2
        refine ⟨(hb.trans (hb1.mono hz)).alloc (by have := hb1.size; omega) _, ?_⟩
        rw [HV.out]
        rfl
      | some p =>
        obtain ⟨d, q⟩ := p
        have hql : q.length < t.size := by have := decV_len _ _ _ hdv; rwa [toL_len] at this
        obtain ⟨_, hdr, hdi⟩ := decV_sound _ _ _ hdv
        rw [hdv] at HC
        by_cases hfull : l.length = 1000
        · have HV : Hid (decR 1000 s.data.toList = none) := by
            unfold Hid
            rw [← HR.out, hxr, hfull]
            rfl
          clear hdv HR hxr h0
          have hfz : ((l.length : Int) == 1000) = true := by rw [hfull]; rfl
          have HF := Lib.hid hfull
          clear hfull
          go_wp2_with (go_at_call 32; refine HC.out.mono ?_; rintro e w1 ⟨hb1, rfl⟩)
          go_ret2
          refine ⟨(hb.trans (hb1.mono hz)).alloc (by have := hb1.size; omega) _, ?_⟩
          rw [HV.out]
          rfl
        · have HR2 : Hid ((decR (1000 - (l ++ [d]).length) q).map ((l ++ [d]) ++ ·) = decR 1000 s.data.toList) := by
            unfold Hid
            rw [← HR.out, hxr]
            rw [hxr] at hdv
            obtain ⟨n, hn⟩ : ∃ n, 1000 - l.length = n + 1 := ⟨999 - l.length, by omega⟩
            have hn2 : 1000 - (l ++ [d]).length = n := by simp; omega
            rw [hn, hn2, decR, hdv]
            simp
            rfl
          have hfz : ((l.length : Int) == 1000) = false := by rw [beq_eq_false_iff_ne]; omega
          clear hdv HR hxr h0
          have HO : Hid (∀ w1, Below wr.heap.size wr w1 → OwnD ((w1.alloc (.cells #[.int .i64 d.k, .int .i64 d.i, .string d.s] 37)).alloc (.cells #[.int .i64 d.k, .int .i64 d.i, .string d.s] 37)) w.heap.size (.slice A l.length c) l) := fun w1 hb1 => ((ho.below hb1).alloc _).alloc _
          clear ho
          go_wp2_with (first
            | (go_at_call 32; refine HC.out.mono ?_; rintro e w1 ⟨hb1, rfl⟩; have hz1 := hb1.size)
            | (at_builtin; refine wpList_append_dats _ rfl (.tmp 24) (.tmp 26) rfl w.heap.size _ _ l [d] rfl rfl (HO.out _ hb1) (rowV_lit _ d _ (by simp)) (by simp; omega) (by simp; omega) ?_))
          intro v3 w3 ho3 hg
          have hb3 := Below.trans (((hb.trans (hb1.mono hz)).alloc (by omega) _).alloc (by simp; omega) _) (ownD_below (HO.out _ hb1) (by simp; omega) hg)
          clear hg
          go_wp2
          go_roundw
          case rel => exact ⟨⟨q.toArray⟩, l ++ [d], rfl, by show q.toArray.size ≤ _; rw [List.size_toArray]; omega, ho3, by simp; omega, hb3, HR2⟩
          case measure => show q.toArray.size < t.size; rw [List.size_toArray]; exact hql

end Go.Proofs.YtoikbdgbhgokaaaDoor
