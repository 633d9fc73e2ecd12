/-
  The walk of the law RowParts: it returns true of every two rows that together are no longer than a machine's memory holds; the tables of unicode/utf8 stand as their initialisers lay them.
-/
import Derived.Test.YtoikbdgbhgokaaaDoorDatRow
import Derived.Test.YtoikbdgbhgokaaaDoorLaw2
import Derived.Test.YtoikbdgbhgokaaaDoorLaw5
namespace Go.Proofs.YtoikbdgbhgokaaaDoor
open Go.RowKit

set_option maxRecDepth 100000 in
set_option maxHeartbeats 4000000 in
theorem refCopy (v : Value) (l : List Dat) (w : World) (hv : RowV w v l) (hl : l.length * 32 ≤ 140737488355328) :
    Calls Tryd.prog 12 #[v] w fun e w' => ∃ v', e = .returned v' ∧ OwnD w' w.heap.size v' l ∧ Below w.heap.size w w' := by
  have HO : Hid (OwnD (w.alloc (.cells #[] 37)) w.heap.size (.slice (some ⟨w.heap.size, 0, none⟩) 0 0) []) := OwnD.lit0 w _ (Nat.le_refl _)
  have HV : Hid (RowV (w.alloc (.cells #[] 37)) v l) := hv.below ((Below.refl _ _).alloc (Nat.le_refl _) _)
  clear hv
  go_enter Tryd.func12, Tryd.ntmps12
  go_wp2_with (at_builtin; refine wpList_append_dats _ rfl _ _ rfl w.heap.size _ _ _ _ rfl rfl HO.out HV.out (by simp; omega) (by simp) ?_)
  intro v1 w1 h1 hg
  have hb := Below.trans (Below.alloc (Below.refl w.heap.size w) (Nat.le_refl _) _) (ownD_below HO.out (by simp) hg)
  clear hg
  go_wp2
  go_ret
  exact ⟨_, rfl, by simpa using h1, hb⟩

/-- What Encode and the reference's Encode answer of a row. -/
def EncV (f : FuncId) (w : World) (v : Value) (S : ByteArray) (E : Int) : Prop :=
  ∀ W, Below w.heap.size w W → Calls Tryd.prog f #[v] W fun e w' => e = .returned (.tuple #[.string S, .int .i64 E]) ∧ Below W.heap.size W w'

set_option maxRecDepth 100000 in
set_option maxHeartbeats 4000000 in
theorem parts_core (A1 : Option Addr) (n1 c1 : Nat) (v2 : Value) (l1 l2 : List Dat) (S1 S2 S3 : ByteArray) (E1 E2 E3 : Int) (w : World) (hn : n1 = l1.length)
    (HV1 : Hid (RowV w (.slice A1 n1 c1) l1)) (HV2 : Hid (RowV w v2 l2)) (hlen : (l1.length + l2.length) * 32 ≤ 140737488355328)
    (HE1 : Hid (EncV 15 w (.slice A1 n1 c1) S1 E1)) (HE2 : Hid (EncV 15 w v2 S2 E2))
    (HU : Hid (∀ v W, RowV W v (l1 ++ l2) → Below w.heap.size w W → EncV 15 W v S3 E3 ∧ EncV 16 W v S3 E3))
    (hcase : (E1 == 0) = false ∨ (E1 = 0 ∧ (E2 == 0) = false) ∨ (E1 = 0 ∧ E2 = 0 ∧ (E3 == 0) = false) ∨ (E1 = 0 ∧ E2 = 0 ∧ E3 = 0 ∧ S3 = S1 ++ S2 ∧ S1.size ≤ 2003000 ∧ S2.size ≤ 2003000 ∧ (0 < S1.size ↔ 0 < n1))) :
    Calls Tryd.prog 9 #[.slice A1 n1 c1, v2] w fun e w' => e = .returned (.bool true) ∧ Below w.heap.size w w' := by
  have HCASE := Lib.hid hcase
  have HL := Lib.hid hlen
  have HN := Lib.hid hn
  clear hcase hlen hn
  go_enter Tryd.func9, Tryd.ntmps9
  go_wp2_with fail
  refine (refCopy _ l1 _ HV1.out (by have := HL.out; omega)).mono ?_
  rintro e w1 ⟨v', rfl, ho, hb1⟩
  have HR2 : Hid (RowV w1 v2 l2) := HV2.out.below hb1
  have hz1 := hb1.size
  go_wp2_with (at_builtin; refine wpList_append_dats _ rfl _ _ rfl w.heap.size _ _ _ _ rfl rfl ho HR2.out HL.out (by omega) ?_)
  intro v3 w2 ho2 hg
  have hb2 := hb1.trans (ownD_below ho (by omega) hg)
  have HV3 : Hid (RowV w2 v3 (l1 ++ l2)) := ho2.row
  have hu := HU.out v3 w2 HV3.out hb2
  have HU1 : Hid (EncV 15 w2 v3 S3 E3) := hu.1
  have HU2 : Hid (EncV 16 w2 v3 S3 E3) := hu.2
  clear hu hg ho ho2 hb1 hz1
  have hz2 := hb2.size
  go_wp2_with fail
  refine (HE1.out _ hb2).mono ?_
  rintro e w3 ⟨rfl, hb3⟩
  have hc3 := hb2.trans (hb3.mono hz2)
  go_wp2_with fail
  refine (HE2.out _ hc3).mono ?_
  rintro e w4 ⟨rfl, hb4⟩
  have hd4 := hb3.trans (hb4.mono hb3.size)
  go_wp2_with fail
  refine (HU1.out _ hd4).mono ?_
  rintro e w5 ⟨rfl, hb5⟩
  have hd5 := hd4.trans (hb5.mono hd4.size)
  go_wp2_with fail
  refine (HU2.out _ hd5).mono ?_
  rintro e w6 ⟨rfl, hb6⟩
  have hd6 := hd5.trans (hb6.mono hd5.size)
  have hc6 := hb2.trans (hd6.mono hz2)
  clear hb3 hb4 hb5 hb6 hd4 hd5 hd6 hc3
  rcases HCASE.out with h | ⟨rfl, h⟩ | ⟨rfl, rfl, h⟩ | ⟨rfl, rfl, rfl, h, z1, z2, hs⟩
  · have h' : (E1 != 0) = true := by simpa using h
    go_wp2
    go_ret
    exact ⟨by simp, hc6⟩
  · have h' : (E2 != 0) = true := by simpa using h
    go_wp2
    go_ret
    exact ⟨by simp, hc6⟩
  · have h' : (E3 != 0) = true := by simpa using h
    go_wp2
    go_ret
    exact ⟨by simp, hc6⟩
  · subst h
    have HS := Lib.hid hs
    clear hs
    go_wp2
    all_goals
      go_ret
      exact ⟨by simp; exact HS.out, hc6⟩

theorem encR_pos (l : List Dat) : 0 < (encR l).length ↔ 0 < l.length := by
  cases l with
  | nil => simp [encR]
  | cons d l => simp [encR, encD]

theorem encE_len (l : List Dat) (h : encE l = 0) : l.length ≤ 1000 := by
  unfold encE at h
  split at h
  · cases h
  · omega

theorem parts_any (v1 v2 : Value) (l1 l2 : List Dat) (w : World) (r1 : RowV w v1 l1) (r2 : RowV w v2 l2) (i1 : ∀ d ∈ l1, InI d) (i2 : ∀ d ∈ l2, InI d) (hT : Tabs w) (hlen : (l1.length + l2.length) * 32 ≤ 140737488355328) :
    Calls Tryd.prog 9 #[v1, v2] w fun e w' => e = .returned (.bool true) ∧ Below w.heap.size w w' := by
  obtain ⟨A1, c1, rfl⟩ : ∃ A c, v1 = .slice A l1.length c := by
    rcases r1 with ⟨rfl, rfl⟩ | ⟨b, off, cap, rfl, _⟩
    · exact ⟨none, 0, rfl⟩
    · exact ⟨_, _, rfl⟩
  have i12 : ∀ d ∈ l1 ++ l2, InI d := by
    intro d hd
    rcases List.mem_append.mp hd with h | h
    · exact i1 d h
    · exact i2 d h
  have hsz : ∀ l : List Dat, encE l = 0 → (⟨(encS l).toArray⟩ : ByteArray).size ≤ 2003000 := by
    intro l hl
    have h1 := encR_length l (encE_zero l hl)
    have h2 := encE_len l hl
    show (encS l).toArray.size ≤ 2003000
    rw [List.size_toArray]
    unfold encS
    rw [if_pos hl]
    omega
  refine parts_core A1 l1.length c1 v2 l1 l2 ⟨(encS l1).toArray⟩ ⟨(encS l2).toArray⟩ ⟨(encS (l1 ++ l2)).toArray⟩ (encE l1) (encE l2) (encE (l1 ++ l2)) w rfl (Lib.hid r1) (Lib.hid r2) hlen
    (Lib.hid fun W hb => encode_any _ l1 W (r1.below hb) i1 (hT.below hb)) (Lib.hid fun W hb => encode_any _ l2 W (r2.below hb) i2 (hT.below hb))
    (Lib.hid fun v W hv hb => ⟨fun W' hb' => encode_any v _ W' (hv.below hb') i12 ((hT.below hb).below hb'), fun W' hb' => refEncode_any v _ W' (hv.below hb') i12⟩) ?_
  by_cases h1 : encE l1 = 0
  · by_cases h2 : encE l2 = 0
    · by_cases h3 : encE (l1 ++ l2) = 0
      · refine .inr (.inr (.inr ⟨h1, h2, h3, ?_, hsz l1 h1, hsz l2 h2, ?_⟩))
        · simp only [encS, if_pos h1, if_pos h2, if_pos h3, encR_append]
          apply ba_eq
          simp
        · show 0 < (encS l1).toArray.size ↔ _
          rw [List.size_toArray]
          unfold encS
          rw [if_pos h1]
          exact encR_pos l1
      · exact .inr (.inr (.inl ⟨h1, h2, by simpa using h3⟩))
    · exact .inr (.inl ⟨h1, by simpa using h2⟩)
  · exact .inl (by simpa using h1)

end Go.Proofs.YtoikbdgbhgokaaaDoor
