/-
  slices.SortFunc at counted rows, by the order of their rows: a sorted permutation; what lay outside the row stays.
-/
import Derived.Test.YtciijaejldfcaaaCmpRow
import Derived.Test.YtciijaejldfcaaaShelf
namespace Go.Proofs.Ytciijaejldfcaaa
open Go.RowKit Go.Shelf Go.Sort

/-- A counted row, and the slice value that holds its row. -/
structure Cnt where
  v : Value
  l : List Dat
  n : Int

def encC (x : Cnt) : List Value := [x.v, .int .i64 x.n]

/-- The order of counted rows. -/
def ordC (x y : Cnt) : Int := cmpR x.l y.l

/-- A counted row whose row reads in w. -/
abbrev CntIn (w : World) : Type := { x : Cnt // RowV w x.v x.l }

instance (w : World) : Inhabited (CntIn w) := ⟨⟨⟨.slice none 0 0, [], 0⟩, .inl ⟨_, _, rfl, rfl⟩⟩⟩

theorem swoC (w : World) : SWO (ltOf fun x y : CntIn w => ordC x.1 y.1) where
  irrefl x := by
    show decide (cmpR x.1.l x.1.l < 0) = false
    rw [cmpR_self]; rfl
  trans x y z h1 h2 := by
    have h1 : decide (cmpR x.1.l y.1.l < 0) = true := h1
    have h2 : decide (cmpR y.1.l z.1.l < 0) = true := h2
    show decide (cmpR x.1.l z.1.l < 0) = true
    rw [decide_eq_true_eq] at *
    exact cmpR_ltle _ _ _ h1 (by omega)
  ntrans x y z h1 h2 := by
    have h1 : decide (cmpR x.1.l y.1.l < 0) = false := h1
    have h2 : decide (cmpR y.1.l z.1.l < 0) = false := h2
    show decide (cmpR x.1.l z.1.l < 0) = false
    rw [decide_eq_false_iff_not] at *
    have a1 := cmpR_anti x.1.l y.1.l
    have a2 := cmpR_anti y.1.l z.1.l
    have a3 := cmpR_anti x.1.l z.1.l
    have := cmpR_trans z.1.l y.1.l x.1.l (by omega) (by omega)
    omega

set_option maxHeartbeats 1000000 in
/-- The order closure of counts. -/
theorem order_any (v1 v2 : Value) (l1 l2 : List Dat) (n1 n2 : Int) (w : World) (h1 : RowV w v1 l1) (h2 : RowV w v2 l2) :
    Calls Try.prog 50 #[.agg #[v1, .int .i64 n1], .agg #[v2, .int .i64 n2]] w (IntPost (cmpR l1 l2) w) := by
  have HX : Hid (∀ W, Below w.heap.size w W → Calls Try.prog 42 #[v1, v2] W (IntPost (cmpR l1 l2) W)) := fun W hW => rowCompare_any v1 v2 l1 l2 W (h1.below hW) (h2.below hW)
  have hv1 : v1.oneCell' = true := by rcases h1 with ⟨_, _, rfl, _⟩ | ⟨b, o, c, rfl, _⟩ <;> rfl
  have hv2 : v2.oneCell' = true := by rcases h2 with ⟨_, _, rfl, _⟩ | ⟨b, o, c, rfl, _⟩ <;> rfl
  revert HX
  generalize cmpR l1 l2 = X
  intro HX
  rcases h1 with ⟨A1, k1, rfl, _⟩ | ⟨b1, o1, c1, rfl, _, _, _⟩
  all_goals
    rcases h2 with ⟨A2, k2, rfl, _⟩ | ⟨b2, o2, c2, rfl, _, _, _⟩
    all_goals
      clear hv1 hv2
      go_enter Try.func50, Try.ntmps50
      go_wp2_with (go_at_call 42; refine (HX.out _ (((Below.refl _ _).alloc (Nat.le_refl _) _).alloc (by simp) _)).mono ?_; rintro e w1 ⟨rfl, hb1⟩)
      go_ret
      exact ⟨rfl, Gr.trans (((Gr.refl _ _).alloc (Nat.le_refl _) _).alloc (by simp) _) (hb1.mono (by simp; try omega))⟩


/-- The cells of a counted row that reads in w. -/
def encI (w : World) (x : CntIn w) : List Value := encC x.1

theorem below_sortWorld {α : Type} [Inhabited α] (enc : α → List Value) (w W : World) (hW : Below w.heap.size w W) (g m : Nat) (hg : w.heap.size ≤ g) (dk : Array α) (os : Array Obj) :
    Below w.heap.size w (sortWorldK enc 2 W g 0 m dk os) := by
  refine hW.trans ⟨rfl, rfl, rfl, size_sortWorldK_c enc 2 W g 0 m dk os, fun k hk => ?_⟩
  unfold sortWorldK
  have h1 : k < W.heap.size := Nat.lt_of_lt_of_le hk hW.size
  have hs : (putRowK enc 2 (Go.Sort.ahead W m) g 0 dk).heap.size = W.heap.size := by rw [size_putRowK]; rfl
  rw [Go.Sort.heap_grow_old _ _ (by rw [hs]; exact h1)]
  unfold putRowK Go.Sort.putRow Go.Sort.mapBlock
  rw [Array.getElem?_modify, if_neg (by omega)]
  rfl

theorem cmpLaysC (w W : World) (hW : Below w.heap.size w W) (g n : Nat) (hg : w.heap.size ≤ g) : CmpLays Try.prog 50 #[] (encI w) 2 (fun x y : CntIn w => ordC x.1 y.1) g 0 n W := by
  intro m os dk _ x y
  have hb := below_sortWorld (encI w) w W hW g m hg dk os
  refine (order_any x.1.v y.1.v x.1.l y.1.l x.1.n y.1.n _ (x.2.below hb) (y.2.below hb)).mono ?_
  rintro e w' ⟨rfl, hg'⟩
  exact ⟨rfl, hg'.grow⟩

theorem oneCell_row {w : World} {v : Value} {l : List Dat} (h : RowV w v l) : v.oneCell' = true := by
  rcases h with ⟨_, _, rfl, _⟩ | ⟨b, o, c, rfl, _⟩ <;> rfl

theorem sortC_any (w W : World) (hW : Below w.heap.size w W) (g cap : Nat) (hg : w.heap.size ≤ g) (hg2 : g < W.heap.size) (d : Array (CntIn w)) (hH : HoldsK (encI w) 2 W g 0 d) (hsz : d.size < 4611686018427387904) :
    Calls Try.prog 70 #[.slice (some ⟨g, 0, none⟩) d.size cap, .func (.func 50) #[] #[]] W fun e w' => e = .returned (.tuple #[]) ∧
      ∃ d' : Array (CntIn w), PermIn 0 d.size d d' ∧ SortedIn (ltOf fun x y : CntIn w => ordC x.1 y.1) 0 d.size d' ∧ HoldsK (encI w) 2 w' g 0 d' ∧ Below w.heap.size w w' ∧ W.heap.size ≤ w'.heap.size := by
  have eg : ∀ args w, (callFunc 50 args).run Try.prog w = .ok (.enter 50 args) w := enters_of Try.func50 (by kernel_rfl) rfl
  have hcon := AnyQ.slices_SortFunc Try.sortC 2 Try.isAgg44 Try.sizeOf44 (encI w) (fun _ => rfl) (fun x v hv => by
    simp [encI, encC] at hv
    rcases hv with rfl | rfl
    · exact oneCell_row x.2
    · rfl) (fun x y : CntIn w => ordC x.1 y.1) (swoC w) 50 #[] g 0 cap d W eg (cmpLaysC w W hW g d.size hg) hH hg2 hsz
  change Calls Try.prog 70 _ _ _ at hcon
  refine hcon.mono ?_
  rintro e w' ⟨rfl, d', n, os, hp, hs, rfl⟩
  exact ⟨rfl, d', hp, hs, holdsK_sortWorldK_c (encI w) 2 W g 0 d d' n os hH hg2 hp.1, below_sortWorld (encI w) w W hW g n hg d' os, size_sortWorldK_c (encI w) 2 W g 0 n d' os⟩

end Go.Proofs.Ytciijaejldfcaaa
