/-
  The walk of the law RowBack: it returns true of every row and every string; the tables of unicode/utf8 stand as their initialisers lay them.
-/
import Derived.Test.YtoikbdgbhgokaaaDoorDecRow
import Derived.Test.YtoikbdgbhgokaaaDoorLaw5
namespace Go.Proofs.YtoikbdgbhgokaaaDoor
open Go.RowKit

theorem decR_sound : ∀ (n : Nat) (b : List UInt8) (l : List Dat), decR n b = some l → encR l = b ∧ (∀ d ∈ l, rightD d = true ∧ InI d) ∧ l.length ≤ n
  | n, [], l, h => by
    rw [decR] at h
    simp only [Option.some.injEq] at h
    subst h
    exact ⟨rfl, by simp, by simp⟩
  | 0, _ :: _, l, h => by simp [decR] at h
  | n + 1, x :: b, l, h => by
    rw [decR] at h
    cases hd : decV (x :: b) with
    | none => rw [hd] at h; cases h
    | some p =>
      obtain ⟨d, t⟩ := p
      rw [hd] at h
      simp only [Option.bind_some] at h
      cases hr : decR n t with
      | none => rw [hr] at h; cases h
      | some r =>
        rw [hr] at h
        simp only [Option.map_some, Option.some.injEq] at h
        subst h
        obtain ⟨h1, h2, h3⟩ := decV_sound _ _ _ hd
        obtain ⟨g1, g2, g3⟩ := decR_sound n t r hr
        refine ⟨by rw [encR, g1, h1], ?_, by simp; omega⟩
        intro e he
        rcases List.mem_cons.mp he with rfl | he
        · exact ⟨h2, h3⟩
        · exact g2 e he

theorem decR_enc : ∀ (l : List Dat) (n : Nat), (∀ d ∈ l, rightD d = true ∧ InI d) → l.length ≤ n → decR n (encR l) = some l
  | [], n, _, _ => by rw [encR, decR]
  | d :: l, n, h, hn => by
    obtain ⟨m, rfl⟩ : ∃ m, n = m + 1 := ⟨n - 1, by simp at hn; omega⟩
    have hd := h d (by simp)
    have he := decV_enc d (encR l) hd.1 hd.2
    have ih := decR_enc l m (fun e he => h e (by simp [he])) (by simp at hn; omega)
    obtain ⟨x, r, hx⟩ : ∃ x r, encD d ++ encR l = x :: r := ⟨_, _, rfl⟩
    rw [encR, hx, decR, ← hx, he]
    simp [ih]

set_option maxRecDepth 100000 in
set_option maxHeartbeats 4000000 in
/-- Behind the first row: what is read of s is written just so. -/
theorem back_core (v1 : Value) (s S1 : ByteArray) (E1 : Int) (l1 : List Dat) (c : Option (List Dat)) (w : World)
    (HE : Hid (∀ W, Below w.heap.size w W → Calls Tryd.prog 15 #[v1] W fun e w' => e = .returned (.tuple #[.string S1, .int .i64 E1]) ∧ Below W.heap.size W w'))
    (HF : Hid (∀ W, Below w.heap.size w W → Calls Tryd.prog 16 #[v1] W fun e w' => e = .returned (.tuple #[.string S1, .int .i64 E1]) ∧ Below W.heap.size W w'))
    (HD1 : Hid (E1 = 0 → ∀ W, Below w.heap.size w W → Calls Tryd.prog 17 #[.string S1] W (DecPost (some l1) W)))
    (HC : Hid (∀ v W, RowV W v l1 → Below w.heap.size w W → Calls Tryd.prog 10 #[v, v1] W (IntPost 0 W)))
    (HV1 : Hid (∃ A c, v1 = .slice A l1.length c))
    (HD2 : Hid (∀ W, Below w.heap.size w W → Calls Tryd.prog 17 #[.string s] W (DecPost c W)))
    (HA : Hid (∀ l v W, c = some l → RowV W v l → Below w.heap.size w W → Calls Tryd.prog 15 #[v] W fun e w' => e = .returned (.tuple #[.string s, .int .i64 0]) ∧ Below W.heap.size W w')) :
    Calls Tryd.prog 6 #[v1, .string s] w fun e w' => e = .returned (.bool true) ∧ Below w.heap.size w w' := by
  obtain ⟨A1, c1, rfl⟩ := HV1.out
  by_cases h1 : E1 = 0
  · have HD1' := Lib.hid (HD1.out h1)
    subst h1
    clear HD1
    go_enter Tryd.func6, Tryd.ntmps6
    go_wp2_with fail
    refine (HF.out _ (Below.refl _ _)).mono ?_
    rintro e w1 ⟨rfl, hb1⟩
    go_wp2_with fail
    refine (HE.out _ hb1).mono ?_
    rintro e w2 ⟨rfl, hb2⟩
    have hc2 := hb1.trans (hb2.mono hb1.size)
    go_wp2_with fail
    refine (HD1'.out _ hc2).mono ?_
    rintro e w3 ⟨hb3, v3, rfl, ho3⟩
    have hc3 := hc2.trans (hb3.mono hc2.size)
    obtain ⟨A3, k3, rfl⟩ := ho3.shape
    have HR3 := Lib.hid ho3.row
    go_wp2_with fail
    refine (HC.out _ _ HR3.out hc3).mono ?_
    rintro e w4 ⟨rfl, hb4⟩
    have hc4 := hc3.trans (hb4.mono hc3.size)
    clear hb1 hb2 hb3 hb4 hc2 hc3 ho3
    go_wp2_with fail
    refine (HD2.out _ hc4).mono ?_
    rintro e w5 ⟨hb5, h5⟩
    have hc5 := hc4.trans (hb5.mono hc4.size)
    cases c with
    | none =>
      simp only at h5
      subst h5
      go_wp2
      go_ret
      exact ⟨rfl, hc5⟩
    | some l =>
      simp only at h5
      obtain ⟨v5, rfl, ho5⟩ := h5
      have HR5 := Lib.hid ho5.row
      clear ho5 hb5
      go_wp2_with fail
      refine (HA.out l _ _ rfl HR5.out hc5).mono ?_
      rintro e w6 ⟨rfl, hb6⟩
      have hc6 := hc5.trans (hb6.mono hc5.size)
      go_wp2
      go_ret
      exact ⟨by simp, hc6⟩
  · have e1 : (E1 == 0) = false := by simpa using h1
    have HN := Lib.hid h1
    clear h1 HD1
    go_enter Tryd.func6, Tryd.ntmps6
    go_wp2_with fail
    refine (HF.out _ (Below.refl _ _)).mono ?_
    rintro e w1 ⟨rfl, hb1⟩
    go_wp2_with fail
    refine (HE.out _ hb1).mono ?_
    rintro e w2 ⟨rfl, hb2⟩
    have hc4 := hb1.trans (hb2.mono hb1.size)
    clear hb1 hb2
    go_wp2_with fail
    refine (HD2.out _ hc4).mono ?_
    rintro e w5 ⟨hb5, h5⟩
    have hc5 := hc4.trans (hb5.mono hc4.size)
    cases c with
    | none =>
      simp only at h5
      subst h5
      go_wp2
      go_ret
      exact ⟨rfl, hc5⟩
    | some l =>
      simp only at h5
      obtain ⟨v5, rfl, ho5⟩ := h5
      have HR5 := Lib.hid ho5.row
      clear ho5 hb5
      go_wp2_with fail
      refine (HA.out l _ _ rfl HR5.out hc5).mono ?_
      rintro e w6 ⟨rfl, hb6⟩
      have hc6 := hc5.trans (hb6.mono hc5.size)
      go_wp2
      go_ret
      exact ⟨by simp, hc6⟩

theorem encE_len2 (l : List Dat) (h : encE l = 0) : l.length ≤ 1000 := by
  unfold encE at h
  split at h
  · cases h
  · omega

theorem cmpR_self : ∀ l : List Dat, cmpR l l = 0
  | [] => rfl
  | d :: l => by rw [cmpR, if_pos (show cmpD d d = 0 from ordD_self _ _ _)]; exact cmpR_self l

theorem toL_back (s : ByteArray) : (⟨s.data.toList.toArray⟩ : ByteArray) = s := by cases s; simp

theorem rowBack_any (v1 : Value) (l1 : List Dat) (s : ByteArray) (w : World) (r1 : RowV w v1 l1) (i1 : ∀ d ∈ l1, InI d) (hs : s.size ≤ 140737488355328) (hT : Tabs w) :
    Calls Tryd.prog 6 #[v1, .string s] w fun e w' => e = .returned (.bool true) ∧ Below w.heap.size w w' := by
  refine back_core v1 s ⟨(encS l1).toArray⟩ (encE l1) l1 (decR 1000 s.data.toList) w (fun W hb => encode_any v1 l1 W (r1.below hb) i1 (hT.below hb)) (fun W hb => refEncode_any v1 l1 W (r1.below hb) i1) ?_ ?_ ?_
    (fun W hb => decode_any s W hs (hT.below hb)) ?_
  · intro h1 W hb
    have a1 := encE_zero l1 h1
    have hlen := encE_len2 l1 h1
    have hd := decR_enc l1 1000 (fun d hd => ⟨a1 d hd, i1 d hd⟩) hlen
    have hb2 := encR_length l1 a1
    have hS : encS l1 = encR l1 := by unfold encS; rw [if_pos h1]
    have hsz : (⟨(encS l1).toArray⟩ : ByteArray).size ≤ 140737488355328 := by
      show (encS l1).toArray.size ≤ _
      rw [List.size_toArray, hS]
      omega
    have := decode_any ⟨(encS l1).toArray⟩ W hsz (hT.below hb)
    rw [show (⟨(encS l1).toArray⟩ : ByteArray).data.toList = encR l1 by rw [hS], hd] at this
    exact this
  · intro v W hv hb
    have := rowCompare_any v v1 l1 l1 W hv (r1.below hb)
    rw [cmpR_self] at this
    exact this
  · rcases r1 with ⟨rfl, rfl⟩ | ⟨b, off, cap, rfl, _⟩
    · exact ⟨none, 0, rfl⟩
    · exact ⟨_, _, rfl⟩
  · intro l v W hl hv hb
    obtain ⟨g1, g2, g3⟩ := decR_sound _ _ _ hl
    have hE : encE l = 0 := by unfold encE; rw [if_neg (by omega), if_pos (List.all_eq_true.mpr (fun d hd => (g2 d hd).1))]
    have := encode_any v l W hv (fun d hd => (g2 d hd).2) (hT.below hb)
    unfold EncPost at this
    rw [hE, show encS l = encR l by unfold encS; rw [if_pos hE], g1, toL_back] at this
    exact this

end Go.Proofs.YtoikbdgbhgokaaaDoor
