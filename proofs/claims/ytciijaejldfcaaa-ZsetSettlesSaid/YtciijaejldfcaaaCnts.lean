/-
  Counted rows in memory: cloned, and sorted by their rows.
-/
import Derived.Test.YtciijaejldfcaaaGen
import Derived.Test.YtciijaejldfcaaaSort
import Derived.WalkSpells
namespace Go.Proofs.Ytciijaejldfcaaa
open Go.RowKit Go.Shelf Go.Sort

theorem hkC (x : Cnt) : (encC x).length = 2 := rfl
abbrev CntV (w : World) (v : Value) (L : List Cnt) : Prop := ValG encC 2 w v L
abbrev OwnC (w : World) (base : Nat) (v : Value) (L : List Cnt) : Prop := OwnG encC 2 44 w base v L
/-- Each row reads. -/
def RowsIn (w : World) (L : List Cnt) : Prop := ∀ x ∈ L, RowV w x.v x.l
theorem RowsIn.below {w w' : World} {L : List Cnt} (h : RowsIn w L) (hb : Below w.heap.size w w') : RowsIn w' L := fun x hx => (h x hx).below hb
theorem RowsIn.one {w : World} {L : List Cnt} (h : RowsIn w L) : ∀ x ∈ L, ∀ u ∈ encC x, u.oneCell' = true := by
  intro x hx u hu
  simp [encC] at hu
  rcases hu with rfl | rfl
  · exact oneCell_row (h x hx)
  · rfl

theorem Try.info44 : (Try.prog.info? 44).map (fun i => (i.zero, i.size, i.bytes)) = some (some (.agg #[.slice none 0 0, .int .i64 0]), 2, 32) := by kernel_rfl

set_option maxRecDepth 100000 in
set_option maxHeartbeats 1000000 in
theorem cloneC_any (v : Value) (L : List Cnt) (w : World) (hv : CntV w v L) (hr : RowsIn w L) (hlen : L.length ≤ 1000000) :
    Calls Try.prog 69 #[v] w fun e w' => ∃ v', e = .returned v' ∧ OwnC w' w.heap.size v' L ∧ Below w.heap.size w w' := by
  obtain ⟨i0, hi, hz0, hz1, hz2⟩ := info_parts Try.info44
  have HV := Lib.hid hv
  have HR := Lib.hid hr
  rcases hv with ⟨rfl, rfl⟩ | ⟨b, off, cap, rfl, hm, hb, hat⟩
  · clear HV HR hr hlen
    have HN : Hid (OwnC w w.heap.size (.slice none 0 0) []) := OwnG.nil 44 w w.heap.size
    have hq := fun w => Lib.run_eql_slice_nil (P := Try.prog) w 22 44 none 0 0 0 0 Try.underlying22
    go_enter Try.func69, Try.ntmps69
    go_wp2
    go_ret
    exact ⟨_, rfl, HN.out, Below.refl _ _⟩
  · clear hat hr hm
    have hq := fun w => Lib.run_eql_slice_nil (P := Try.prog) w 22 44 (some ⟨b, off, none⟩) L.length cap 0 0 Try.underlying22
    simp only [Option.isNone_some] at hq
    go_enter Try.func69, Try.ntmps69
    go_wp2_with (at_builtin; refine wpList_append_g hkC (by decide) 22 44 i0 _ 32 Try.underlying22 hi hz0 hz1 hz2 rfl _ rfl (.tmp 5) (.tmp 6) rfl w.heap.size _ _ [] L rfl rfl (OwnG.lit0 44 w w.heap.size (Nat.le_refl _)) (HV.out.below ((Below.refl _ _).alloc (Nat.le_refl _) _)) HR.out.one (by unfold maxLen; simp; omega) (by simp; omega) (by simp) ?_; intro v' w1 ho hg)
    go_ret
    exact ⟨_, rfl, ho, Below.trans ((Below.refl _ _).alloc (Nat.le_refl _) _) (OwnG.grown (OwnG.lit0 (enc := encC) (k := 2) 44 w w.heap.size (Nat.le_refl _)) (by simp) hg)⟩


/-- A slice from its block's head on, of a block from base on, that holds the elements. -/
def AtV (w : World) (base : Nat) (v : Value) (D : List Cnt) : Prop :=
  (∃ A c, v = .slice A 0 c ∧ D = []) ∨ ∃ g cap, v = .slice (some ⟨g, 0, none⟩) D.length cap ∧ D.length ≤ cap ∧ cap ≤ maxLen ∧ base ≤ g ∧ g < w.heap.size ∧ AtG encC 2 w g 0 D

theorem permIn_all {α : Type} [Inhabited α] {d d' : Array α} (h : PermIn 0 d.size d d') : d'.toList.Perm d.toList := by
  obtain ⟨h1, _, h3⟩ := h
  have e1 : d'.extract 0 d.size = d' := by rw [← h1]; simp
  have e2 : d.extract 0 d.size = d := by simp
  rwa [e1, e2] at h3

theorem sorted_pair {w : World} {d : Array (CntIn w)} (n : Nat) (hn : n = d.size) (h : SortedIn (ltOf fun x y : CntIn w => ordC x.1 y.1) 0 n d) : d.toList.Pairwise fun x y => cmpR x.1.l y.1.l ≤ 0 := by
  subst hn
  rw [List.pairwise_iff_getElem]
  intro i j hi hj hij
  simp only [Array.length_toList] at hi hj
  have := h i j (Nat.zero_le _) hij hj
  have h1 : decide (cmpR d[j]!.1.l d[i]!.1.l < 0) = false := this
  rw [decide_eq_false_iff_not, getElem!_pos d i hi, getElem!_pos d j hj] at h1
  have := cmpR_anti d[j].1.l d[i].1.l
  simp only [Array.getElem_toList]
  omega

theorem sortC_list (w W : World) (hW : Below w.heap.size w W) (v : Value) (L : List Cnt) (ho : OwnC W w.heap.size v L) (hr : RowsIn w L) (hlen : L.length ≤ 1000000) :
    Calls Try.prog 70 #[v, .func (.func 50) #[] #[]] W fun e w' => e = .returned (.tuple #[]) ∧ ∃ D : List Cnt, D.Perm L ∧ D.Pairwise (fun x y => cmpR x.l y.l ≤ 0) ∧ AtV w' w.heap.size v D ∧ Below w.heap.size w w' := by
  have hR : ∀ x ∈ L, RowV w x.v x.l := hr
  clear hr
  by_cases h0 : L = []
  · subst h0
    have hv : ∃ A c, v = .slice A 0 c := by
      rcases ho.shape with ⟨rfl, _⟩ | ⟨g, cap, rfl, _⟩
      · exact ⟨_, _, rfl⟩
      · exact ⟨_, _, rfl⟩
    obtain ⟨A, c, rfl⟩ := hv
    have hcon := AnyF.slices_SortFunc_none Try.sortC A c (.func (.func 50) #[] #[]) W
    change Calls Try.prog 70 _ _ _ at hcon
    refine hcon.mono ?_
    rintro e w' ⟨rfl, rfl⟩
    exact ⟨rfl, [], List.Perm.refl _, List.Pairwise.nil, .inl ⟨_, _, rfl, rfl⟩, hW⟩
  · rcases ho.shape with ⟨_, h⟩ | ⟨g, cap, rfl, hg, hg2, hlc, hcm, _⟩
    · exact absurd h h0
    · have hI : OwnG (encI w) 2 44 W w.heap.size (.slice (some ⟨g, 0, none⟩) (L.attachWith _ hR).length cap) (L.attachWith _ hR) := by
        have e1 : (L.attachWith _ hR).flatMap (encI w) = L.flatMap encC := by
          have : (L.attachWith _ hR).flatMap (encI w) = ((L.attachWith _ hR).map Subtype.val).flatMap encC := by rw [List.flatMap_map]; rfl
          rw [this, List.attachWith_map_subtype_val]
        unfold OwnG
        rw [e1, List.length_attachWith]
        exact ho
      have hH := OwnG.holds (enc := encI w) (k := 2) (fun _ => rfl) hI (by decide)
      have hcon := sortC_any w W hW g cap hg hg2 (L.attachWith _ hR).toArray hH (by simp; omega)
      simp only [List.size_toArray, List.length_attachWith] at hcon
      refine hcon.mono ?_
      rintro e w' ⟨rfl, d', hp, hs, hH', hb, hz⟩
      have hp' := hp
      rw [show L.length = (L.attachWith _ hR).toArray.size by simp] at hp'
      have hperm := (permIn_all hp').map Subtype.val
      rw [List.attachWith_map_subtype_val] at hperm
      have hlen' : (d'.toList.map Subtype.val).length = L.length := hperm.length_eq
      refine ⟨rfl, d'.toList.map Subtype.val, hperm, ?_, .inr ⟨g, cap, by rw [hlen'], by rw [hlen']; exact hlc, hcm, hg, Nat.lt_of_lt_of_le hg2 hz, ?_⟩, hb⟩
      · rw [List.pairwise_map]
        exact sorted_pair L.length (by have := hp.1; simp at this; exact this.symm) hs
      · have ha := atG_of_holds (enc := encI w) (k := 2) (fun _ => rfl) hH'
        intro i x hi r u hr'
        rw [List.getElem?_map] at hi
        obtain ⟨y, hy, rfl⟩ := Option.map_eq_some_iff.mp hi
        exact ha i y hy r u hr'

end Go.Proofs.Ytciijaejldfcaaa
