/-
  Reading values and rows out of bytes, as plain functions: what is read is written just so, and what is written is read; no conditions but that the values may be.
-/
import Derived.Test.YtoikbdgbhgokaaaDoorRowPure
namespace Go.Proofs.YtoikbdgbhgokaaaDoor

/-- A text ahead of its end, and what stands behind. -/
def unesc : List UInt8 → Option (List UInt8 × List UInt8)
  | [] => none
  | [_] => none
  | x :: y :: t => if x = 0 then (if y = 0 then some ([], t) else if y = 1 then (unesc t).map (fun p => (0 :: p.1, p.2)) else none) else (unesc (y :: t)).map (fun p => (x :: p.1, p.2))

theorem unesc_esc : ∀ a t : List UInt8, unesc (esc a ++ (0 :: 0 :: t)) = some (a, t)
  | [], t => by simp [esc, unesc]
  | x :: a, t => by
    have ih := unesc_esc a t
    rw [esc]
    by_cases hx : x = 0
    · rw [if_pos hx, List.cons_append, List.cons_append, unesc, if_pos rfl, if_neg (by decide), if_pos rfl, ih, hx]; rfl
    · rw [if_neg hx, List.cons_append]
      obtain ⟨y, r, hr⟩ : ∃ y r, esc a ++ (0 :: 0 :: t) = y :: r := by
        cases h : esc a with
        | nil => exact ⟨0, 0 :: t, rfl⟩
        | cons y r => exact ⟨y, r ++ 0 :: 0 :: t, rfl⟩
      rw [hr] at ih ⊢
      rw [unesc, if_neg hx, ih]
      rfl

theorem unesc_sound : ∀ (n : Nat) (l : List UInt8) (a t : List UInt8), l.length ≤ n → unesc l = some (a, t) → l = esc a ++ (0 :: 0 :: t)
  | 0, l, a, t, hn, h => by
    have : l = [] := List.eq_nil_of_length_eq_zero (by omega)
    subst this
    simp [unesc] at h
  | n + 1, [], a, t, _, h => by simp [unesc] at h
  | n + 1, [x], a, t, _, h => by simp [unesc] at h
  | n + 1, x :: y :: l, a, t, hn, h => by
    rw [unesc] at h
    by_cases hx : x = 0
    · rw [if_pos hx] at h
      by_cases hy : y = 0
      · rw [if_pos hy] at h
        simp only [Option.some.injEq, Prod.mk.injEq] at h
        obtain ⟨rfl, rfl⟩ := h
        rw [hx, hy]; rfl
      · rw [if_neg hy] at h
        by_cases hy1 : y = 1
        · rw [if_pos hy1] at h
          cases hu : unesc l with
          | none => rw [hu] at h; cases h
          | some p =>
            rw [hu] at h
            simp only [Option.map_some, Option.some.injEq, Prod.mk.injEq] at h
            obtain ⟨rfl, rfl⟩ := h
            have ih := unesc_sound n l p.1 p.2 (by simp at hn; omega) hu
            rw [hx, hy1, ih, esc, if_pos rfl]; rfl
        · rw [if_neg hy1] at h; cases h
    · rw [if_neg hx] at h
      cases hu : unesc (y :: l) with
      | none => rw [hu] at h; cases h
      | some p =>
        rw [hu] at h
        simp only [Option.map_some, Option.some.injEq, Prod.mk.injEq] at h
        obtain ⟨rfl, rfl⟩ := h
        have ih := unesc_sound n (y :: l) p.1 p.2 (by simp at hn ⊢; omega) hu
        rw [esc, if_neg hx, List.cons_append, ← ih]

/-- The number that eight bytes spell, the highest first, its highest bit turned round. -/
def num8 (l : List UInt8) : Nat := l.foldl (fun n b => n * 256 + b.toNat) 0
def back (n : Nat) : Int := (n : Int) - 9223372036854775808

/-- A BOOL's byte. -/
def decB : List UInt8 → Option (Dat × List UInt8)
  | [] => none
  | b :: t => if b.toNat ≤ 1 then some (⟨1, (b.toNat : Int), ⟨#[]⟩⟩, t) else none
/-- A TEXT's or BYTES' text. -/
def decT (k : Int) : Option (List UInt8 × List UInt8) → Option (Dat × List UInt8)
  | none => none
  | some p => if rightD ⟨k, 0, ⟨p.1.toArray⟩⟩ = true then some (⟨k, 0, ⟨p.1.toArray⟩⟩, p.2) else none

/-- The value with which bytes begin, whose first byte is x, and what stands behind. -/
def decX (x : UInt8) (r : List UInt8) : Option (Dat × List UInt8) :=
  if x = 1 then some (⟨0, 0, ⟨#[]⟩⟩, r)
  else if x = 2 then decB r
  else if x = 3 ∨ x = 4 then (if r.length < 8 then none else some (⟨(x.toNat : Int) - 1, back (num8 (r.take 8)), ⟨#[]⟩⟩, r.drop 8))
  else if x = 5 ∨ x = 6 then decT ((x.toNat : Int) - 1) (unesc r)
  else none
def decV : List UInt8 → Option (Dat × List UInt8)
  | [] => none
  | x :: r => decX x r

theorem num8_be8 (n : Nat) (h : n < 18446744073709551616) : num8 (be8 n) = n := by
  unfold num8 be8
  simp only [List.foldl_cons, List.foldl_nil, UInt8.toNat_ofNat']
  omega

theorem be8_num8 (l : List UInt8) (h : l.length = 8) : be8 (num8 l) = l := by
  match l, h with
  | [a, b, c, d, e, f, g, i], _ =>
    have ha := a.toNat_lt
    have hb := b.toNat_lt
    have hc := c.toNat_lt
    have hd := d.toNat_lt
    have he := e.toNat_lt
    have hf := f.toNat_lt
    have hg := g.toNat_lt
    have hi := i.toNat_lt
    have key : ∀ (x : UInt8) (m : Nat), m % 256 = x.toNat → UInt8.ofNat m = x := fun x m hm => UInt8.toNat_inj.mp (by rw [UInt8.toNat_ofNat']; exact hm)
    unfold num8 be8
    simp only [List.foldl_cons, List.foldl_nil]
    rw [key a _ (by omega), key b _ (by omega), key c _ (by omega), key d _ (by omega), key e _ (by omega), key f _ (by omega), key g _ (by omega), key i _ (by omega)]

theorem num8_lt (l : List UInt8) (h : l.length = 8) : num8 l < 18446744073709551616 := by
  match l, h with
  | [a, b, c, d, e, f, g, i], _ =>
    have ha := a.toNat_lt
    have hb := b.toNat_lt
    have hc := c.toNat_lt
    have hd := d.toNat_lt
    have he := e.toNat_lt
    have hf := f.toNat_lt
    have hg := g.toNat_lt
    have hi := i.toNat_lt
    unfold num8
    simp only [List.foldl_cons, List.foldl_nil]
    omega

theorem u8_of (x : UInt8) : u8 ((x.toNat : Int) - 1 + 1) = x := by
  apply UInt8.toNat_inj.mp
  have := x.toNat_lt
  have h := u8_toNat ((x.toNat : Int) - 1 + 1) (by omega) (by omega)
  omega

/-- What is read is written just so, and may be. -/
theorem decV_sound (l : List UInt8) (d : Dat) (t : List UInt8) (h : decV l = some (d, t)) : l = encD d ++ t ∧ rightD d = true ∧ InI d := by
  cases l with
  | nil => simp [decV] at h
  | cons x r =>
    rw [decV, decX] at h
    by_cases h1 : x = 1
    · rw [if_pos h1] at h
      simp only [Option.some.injEq, Prod.mk.injEq] at h
      obtain ⟨rfl, rfl⟩ := h
      subst h1
      exact ⟨rfl, rfl, by unfold InI; simp⟩
    rw [if_neg h1] at h
    by_cases h2 : x = 2
    · rw [if_pos h2] at h
      cases r with
      | nil => rw [decB] at h; cases h
      | cons b r =>
        rw [decB] at h
        by_cases hb : b.toNat ≤ 1
        · rw [if_pos hb] at h
          simp only [Option.some.injEq, Prod.mk.injEq] at h
          obtain ⟨rfl, rfl⟩ := h
          subst h2
          have hu : u8 (b.toNat : Int) = b := by have := u8_of b; rwa [show (b.toNat : Int) - 1 + 1 = b.toNat by omega] at this
          refine ⟨?_, ?_, ?_⟩
          · show _ = u8 (1 + 1) :: bodyD _ ++ _
            unfold bodyD
            rw [if_pos rfl]
            show _ = u8 (1 + 1) :: ([u8 (b.toNat : Int)] ++ _)
            rw [hu]; rfl
          · rcases (show b.toNat = 0 ∨ b.toNat = 1 by omega) with h | h <;> rw [h] <;> rfl
          · unfold InI; simp only; omega
        · rw [if_neg hb] at h; cases h
    rw [if_neg h2] at h
    by_cases h3 : x = 3 ∨ x = 4
    · rw [if_pos h3] at h
      by_cases h8 : r.length < 8
      · rw [if_pos h8] at h; cases h
      · rw [if_neg h8] at h
        simp only [Option.some.injEq, Prod.mk.injEq] at h
        obtain ⟨rfl, rfl⟩ := h
        have hl : (r.take 8).length = 8 := by rw [List.length_take]; omega
        have hlt := num8_lt _ hl
        have hk : (x.toNat : Int) - 1 = 2 ∨ (x.toNat : Int) - 1 = 3 := by rcases h3 with rfl | rfl <;> simp
        refine ⟨?_, ?_, ?_⟩
        · unfold encD bodyD
          rw [if_neg (by simp only; omega), if_pos (by simp only; exact hk), u8_of]
          have ht : turned (back (num8 (r.take 8))) = num8 (r.take 8) := by unfold turned back; omega
          rw [ht, be8_num8 _ hl, List.cons_append, List.take_append_drop]
        · unfold rightD
          rw [if_neg (by simp only; omega), if_neg (by simp only; omega), if_pos (by simp only; exact hk)]
          rfl
        · unfold InI back; simp only; omega
    rw [if_neg h3] at h
    by_cases h5 : x = 5 ∨ x = 6
    · rw [if_pos h5] at h
      cases hu : unesc r with
      | none => rw [hu, decT] at h; cases h
      | some p =>
        obtain ⟨a, t'⟩ := p
        rw [hu, decT] at h
        simp only at h
        by_cases hr : rightD ⟨(x.toNat : Int) - 1, 0, ⟨a.toArray⟩⟩ = true
        · rw [if_pos hr] at h
          simp only [Option.some.injEq, Prod.mk.injEq] at h
          obtain ⟨rfl, rfl⟩ := h
          have hk : (x.toNat : Int) - 1 = 4 ∨ (x.toNat : Int) - 1 = 5 := by rcases h5 with rfl | rfl <;> simp
          refine ⟨?_, hr, by unfold InI; simp⟩
          unfold encD bodyD
          rw [if_neg (by simp only; omega), if_neg (by simp only; omega), if_pos (by simp only; exact hk), u8_of, unesc_sound _ r a t' (Nat.le_refl _) hu]
          simp
        · rw [if_neg hr] at h; cases h
    · rw [if_neg h5] at h; cases h

theorem dat_none {d : Dat} (h : d.s.size = 0) : d.s = ⟨#[]⟩ := ba_empty' h rfl

/-- What is written is read. -/
theorem decV_enc (d : Dat) (t : List UInt8) (h : rightD d = true) (hI : InI d) : decV (encD d ++ t) = some (d, t) := by
  have hk := rightD_kind d h
  obtain ⟨k, i, s⟩ := d
  simp only at hk
  unfold encD
  rw [List.cons_append, decV, decX]
  rcases (show k = 0 ∨ k = 1 ∨ (k = 2 ∨ k = 3) ∨ (k = 4 ∨ k = 5) by omega) with rfl | rfl | hk2 | hk4
  · obtain ⟨rfl, hz⟩ := rightD_null _ h rfl
    have e := dat_none hz
    simp only at e
    rw [if_pos (by rfl)]
    subst e
    rfl
  · obtain ⟨hi, hz⟩ := rightD_bool _ h rfl
    have e := dat_none hz
    simp only at e hi
    subst e
    rw [if_neg (show ¬ (u8 (1 + 1) = 1) by decide), if_pos (show u8 (1 + 1) = 2 from rfl)]
    rcases hi with rfl | rfl <;> rfl
  · have hz := rightD_num _ h hk2
    have e := dat_none hz
    simp only at e
    subst e
    unfold InI at hI
    simp only at hI
    have hn : turned i < 18446744073709551616 := by unfold turned; omega
    have hb : back (turned i) = i := by unfold turned back; omega
    have hb8 : (bodyD ⟨k, i, ⟨#[]⟩⟩) = be8 (turned i) := by unfold bodyD; rw [if_neg (by simp only; omega), if_pos (by simp only; exact hk2)]
    simp only
    rw [hb8]
    rcases hk2 with rfl | rfl
    · rw [if_neg (by decide), if_neg (by decide), if_pos (by decide), if_neg (by simp [be8]), List.take_left' (by rfl), List.drop_left' (by rfl), num8_be8 _ hn, hb]; rfl
    · rw [if_neg (by decide), if_neg (by decide), if_pos (by decide), if_neg (by simp [be8]), List.take_left' (by rfl), List.drop_left' (by rfl), num8_be8 _ hn, hb]; rfl
  · have hi := rightD_text _ h hk4
    simp only at hi
    subst hi
    have hb8 : (bodyD ⟨k, 0, s⟩) = esc s.data.toList ++ [0, 0] := by unfold bodyD; rw [if_neg (by simp only; omega), if_neg (by simp only; omega), if_pos (by simp only; exact hk4)]
    have hu : unesc ((esc s.data.toList ++ [0, 0]) ++ t) = some (s.data.toList, t) := by
      rw [List.append_assoc]; exact unesc_esc _ _
    have hs : (⟨s.data.toList.toArray⟩ : ByteArray) = s := by cases s; simp
    simp only
    rw [hb8, hu]
    rcases hk4 with rfl | rfl
    · rw [if_neg (by decide), if_neg (by decide), if_neg (by decide), if_pos (by decide)]
      rw [decT]
      simp only [hs]
      rw [if_pos (by exact h)]; rfl
    · rw [if_neg (by decide), if_neg (by decide), if_neg (by decide), if_pos (by decide)]
      rw [decT]
      simp only [hs]
      rw [if_pos (by exact h)]; rfl

end Go.Proofs.YtoikbdgbhgokaaaDoor
