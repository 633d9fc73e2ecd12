/-
  The walk of the law ZsetSplits: it returns true of every list of counted rows.
-/
import Derived.Test.YtciijaejldfcaaaSplP
import Derived.Test.YtciijaejldfcaaaKept
import Derived.BigFrame
namespace Go.Proofs.Ytciijaejldfcaaa
open Go.RowKit

set_option maxRecDepth 100000 in
set_option maxHeartbeats 16000000 in
theorem splits_core (vx : Value) (X : List Cnt) (w : World) (hvx : CntV w vx X) (hrx : RowsIn w X) (hbx : ∀ x ∈ X, RowB x.l) :
    Calls Try.prog 6 #[vx] w (BoolB true w) := by
  have HSX : Hid (∀ W, Below w.heap.size w W → Calls Try.prog 28 #[vx] W (SmallPost X W)) := fun W hW => small_ins vx X W (hvx.below hW) (hrx.below hW) hbx
  have HPX : Hid (∀ y ∈ plainC (smalls X), RowB y.1) := by
    intro y hy
    unfold plainC at hy
    obtain ⟨z, hz, rfl⟩ := List.mem_map.mp hy
    obtain ⟨x, hx, _, e2, _⟩ := smalls_mem hz
    rw [e2]; exact hbx x hx
  have HLX := Lib.hid (smalls_le X)
  have NX := smalls_len X
  clear hvx hrx hbx
  revert HSX HPX HLX NX
  unfold SmallPost
  generalize smalls X = SX
  intro HSX HPX HLX NX
  obtain ⟨i0, hi, hz0, hz1, hz2⟩ := info_parts Try.info44
  have HI := Lib.hid hi
  have HZ0 := Lib.hid hz0
  have HZ1 := Lib.hid hz1
  have HZ2 := Lib.hid hz2
  clear hi hz0 hz1 hz2
  have plen : ∀ K : List Cnt, (plainC K).length = K.length := fun K => by unfold plainC; rw [List.length_map]
  have PL := Lib.hid plen
  clear plen
  have hc0 : Below w.heap.size w w := Below.refl _ _
  go_enter Try.func6, Try.ntmps6
  go_wp2_with fail
  refine (HSX.out _ hc0).mono ?_
  rintro e w1 ⟨s1, rfl, hos1, his1, hb1⟩
  have Is1 := Lib.hid his1
  have Os1 := Lib.hid hos1
  clear his1 hos1
  have hc1 := hc0.trans (hb1.mono hc0.size)
  clear Os1
  go_wp2_with fail
  have hr1 := Below.refl w1.heap.size w1
  refine (tidy_ok _ _ _ Is1.out ((HLX.out.fit (by decide)).1)).mono ?_
  rintro e w2 ⟨a, Ka, rfl, hb2, hta, hoa, hfa, hla⟩
  rw [PL.out] at hla
  have Ia := Lib.hid (tid_ins hta hoa hfa (HPX.out) (by omega))
  have Ta := Lib.hid hta
  obtain ⟨Aa, ca, rfl⟩ := OwnC.shp hoa
  clear hta hoa hfa
  have hk2 := hr1.trans (hb2.mono hr1.size)
  replace Is1 := Lib.hid (Is1.out.below hk2)
  have hc2 := hc1.trans (hk2.mono hc1.size)
  go_wp2_with fail
  refine (positive_ok _ _ _ Is1.out ((HLX.out.fit (by decide)).1)).mono ?_
  rintro e w3 ⟨u, Ku, rfl, hb3, htu, hou, hfu, hlu⟩
  rw [PL.out] at hlu
  have Iu := Lib.hid (pos_ins htu hou hfu (HPX.out) (by omega))
  have Tu := Lib.hid htu
  obtain ⟨Au, cu, rfl⟩ := OwnC.shp hou
  clear htu hou hfu
  replace Is1 := Lib.hid (Is1.out.below hb3)
  replace Ia := Lib.hid (Ia.out.below hb3)
  have hc3 := hc2.trans (hb3.mono hc2.size)
  have HLu := Lib.hid (pos_le HLX.out Tu.out (by decide))
  have HPu := Lib.hid (pos_rows Tu.out HPX.out)
  have hu60 : (Ku.filter posC).length ≤ 60 := Nat.le_trans (List.length_filter_le _ _) (by omega)
  go_wp2_with fail
  have hr3 := Below.refl w3.heap.size w3
  refine (negate_ok _ _ _ Is1.out ((HLX.out.fit (by decide)).2)).mono ?_
  rintro e w4 ⟨m, Km, rfl, hb4, htm, hom, hfm, hlm⟩
  rw [PL.out] at hlm
  have Im := Lib.hid (tid_ins htm hom hfm (HPX.out) (by omega))
  have Tm := Lib.hid htm
  obtain ⟨Am, cm, rfl⟩ := OwnC.shp hom
  clear htm hom hfm
  have hk4 := hr3.trans (hb4.mono hr3.size)
  replace Is1 := Lib.hid (Is1.out.below hk4)
  replace Ia := Lib.hid (Ia.out.below hk4)
  replace Iu := Lib.hid (Iu.out.below hk4)
  have hc4 := hc3.trans (hk4.mono hc3.size)
  have HLm := Lib.hid (HLX.out.tid (.inr rfl) Tm.out)
  have HPm : Hid (∀ y ∈ plainC Km, RowB y.1) := fun y hy => by obtain ⟨z, hz, e⟩ := tid_rows Tm.out y hy; rw [← e]; exact HPX.out z hz
  go_wp2_with fail
  refine (positive_ok _ _ _ Im.out ((HLm.out.fit (by decide)).1)).mono ?_
  rintro e w5 ⟨d, Kd, rfl, hb5, htd, hod, hfd, hld⟩
  rw [PL.out] at hld
  have Id := Lib.hid (pos_ins htd hod hfd (HPm.out) (by omega))
  have Td := Lib.hid htd
  obtain ⟨Ad, cd, rfl⟩ := OwnC.shp hod
  clear htd hod hfd
  replace Is1 := Lib.hid (Is1.out.below hb5)
  replace Ia := Lib.hid (Ia.out.below hb5)
  replace Iu := Lib.hid (Iu.out.below hb5)
  replace Im := Lib.hid (Im.out.below hb5)
  have hc5 := hc4.trans (hb5.mono hc4.size)
  have HLd := Lib.hid (pos_le HLm.out Td.out (by decide))
  have HPd := Lib.hid (pos_rows Td.out HPm.out)
  have hd60 : (Kd.filter posC).length ≤ 60 := Nat.le_trans (List.length_filter_le _ _) (by omega)
  go_wp2_with fail
  have hr5 := Below.refl w5.heap.size w5
  refine (negate_ok _ _ _ Id.out ((HLd.out.fit (by decide)).2)).mono ?_
  rintro e w6 ⟨b, Kb, rfl, hb6, htb, hob, hfb, hlb⟩
  rw [PL.out] at hlb
  have Ib := Lib.hid (tid_ins htb hob hfb (HPd.out) (by omega))
  have Tb := Lib.hid htb
  obtain ⟨Ab, cb, rfl⟩ := OwnC.shp hob
  clear htb hob hfb
  have hk6 := hr5.trans (hb6.mono hr5.size)
  replace Is1 := Lib.hid (Is1.out.below hk6)
  replace Ia := Lib.hid (Ia.out.below hk6)
  replace Iu := Lib.hid (Iu.out.below hk6)
  replace Im := Lib.hid (Im.out.below hk6)
  replace Id := Lib.hid (Id.out.below hk6)
  have hc6 := hc5.trans (hk6.mono hc5.size)
  have HLb := Lib.hid (HLd.out.tid (.inr rfl) Tb.out)
  have HPb : Hid (∀ y ∈ plainC Kb, RowB y.1) := fun y hy => by obtain ⟨z, hz, e⟩ := tid_rows Tb.out y hy; rw [← e]; exact HPd.out z hz
  have hb60 : Kb.length ≤ 60 := by omega
  have q1l := Lib.hid (OwnG.lit0 (enc := encC) (k := 2) 44 w6 w6.heap.size (Nat.le_refl _))
  have q11 := (Below.refl w6.heap.size w6).alloc (Nat.le_refl _) (.cells #[] 44)
  go_wp2_with (first | (at_builtin; refine wpList_append_g hkC (by decide) 22 44 i0 _ 32 Try.underlying22 HI.out HZ0.out HZ1.out HZ2.out rfl _ rfl (.tmp 50) (.tmp 51) rfl w6.heap.size _ _ [] (Ku.filter posC) rfl rfl q1l.out (Iu.out.below q11).1 (RowsIn.one Iu.out.2.1) (by unfold maxLen; simp only [List.length_nil]; omega) (by simp only [List.length_nil]; omega) q11.size ?_; intro q1v w7 q1ho q1hg; have q12 := q11.trans (OwnG.grown q1l.out q11.size q1hg); have q1o : Hid (OwnC w7 w6.heap.size q1v (Ku.filter posC)) := q1ho) | (at_builtin; refine wpList_append_g hkC (by decide) 22 44 i0 _ 32 Try.underlying22 HI.out HZ0.out HZ1.out HZ2.out rfl _ rfl (.tmp 52) (.tmp 53) rfl w6.heap.size _ _ (Ku.filter posC) Kb rfl rfl q1o.out (Ib.out.below q12).1 (RowsIn.one Ib.out.2.1) (by unfold maxLen; omega) (by omega) q12.size ?_; intro q1u w8 q1ko q1kg))
  have q13 := q12.trans (OwnG.grown q1o.out q12.size q1kg)
  have q1i := Lib.hid (ins_app q1ko (Iu.out.below q13).rows (Ib.out.below q13).rows (by omega))
  clear q1ho q1hg q1ko q1kg q1o q1l
  have HUB : Hid (CntLe (60000000 + 60000000) (plainC (Ku.filter posC ++ Kb))) := by rw [plainC_append]; exact HLu.out.app HLb.out
  have HPUB : Hid (∀ y ∈ plainC (Ku.filter posC ++ Kb), RowB y.1) := by
    intro y hy
    rw [plainC_append] at hy
    rcases List.mem_append.mp hy with h | h
    · exact HPu.out y h
    · exact HPb.out y h
  refine (tidy_ok _ _ _ q1i.out ((HUB.out.fit (by decide)).1)).mono ?_
  rintro e w9 ⟨h, Kw, rfl, hb9, hth, hoh, hfh, hlh⟩
  rw [PL.out] at hlh
  have Ih := Lib.hid (tid_ins hth hoh hfh (HPUB.out) (by rw [List.length_append] at hlh; omega))
  have Th := Lib.hid hth
  obtain ⟨Ah, ch, rfl⟩ := OwnC.shp hoh
  clear hth hoh hfh
  have hk9 := q13.trans (hb9.mono q13.size)
  replace Is1 := Lib.hid (Is1.out.below hk9)
  replace Ia := Lib.hid (Ia.out.below hk9)
  replace Iu := Lib.hid (Iu.out.below hk9)
  replace Im := Lib.hid (Im.out.below hk9)
  replace Id := Lib.hid (Id.out.below hk9)
  replace Ib := Lib.hid (Ib.out.below hk9)
  have hc9 := hc6.trans (hk9.mono hc6.size)
  clear q1i
  go_wp2_with fail
  refine (distinct_ok _ _ _ Is1.out ((HLX.out.fit (by decide)).1)).mono ?_
  rintro e w10 ⟨o, Ko, rfl, hb10, hto, hoo, hfo, hlo⟩
  rw [PL.out] at hlo
  have Io := Lib.hid (dis_ins hto hoo hfo (HPX.out) (by omega))
  have To := Lib.hid hto
  obtain ⟨Ao, co, rfl⟩ := OwnC.shp hoo
  clear hto hoo hfo
  replace Is1 := Lib.hid (Is1.out.below hb10)
  replace Ia := Lib.hid (Ia.out.below hb10)
  replace Iu := Lib.hid (Iu.out.below hb10)
  replace Im := Lib.hid (Im.out.below hb10)
  replace Id := Lib.hid (Id.out.below hb10)
  replace Ib := Lib.hid (Ib.out.below hb10)
  replace Ih := Lib.hid (Ih.out.below hb10)
  have hc10 := hc9.trans (hb10.mono hc9.size)
  have hah' : plainC Ka = plainC Kw := Ta.out.unique Th.out fun r => by
    have e1 := pos_cnt Tu.out r
    have e2 := Tm.out.cnt r
    have e3 := pos_cnt Td.out r
    have e4 := Tb.out.cnt r
    rw [plainC_append, cntR_append, e1, e4, e3, e2]
    split <;> split <;> omega
  have huo' : plainC Ku = plainC Ko := Tu.out.unique To.out fun r => rfl
  have huo : plainC (Ku.filter posC) = plainC (Ko.filter posC) := by rw [plain_filter, plain_filter, huo']
  have hpos : ∀ x ∈ Ku.filter posC, 1 ≤ x.n := fun x hx => by
    have := (List.mem_filter.mp hx).2
    unfold posC at this
    rw [decide_eq_true_eq] at this
    omega
  have hla' : Ka.length ≤ 1000000 := by omega
  have HK1 : Hid (∀ W, Below w10.heap.size w10 W → Calls Try.prog 15 #[.slice Aa Ka.length ca, .slice Ah Kw.length ch] W (BoolB true W)) := fun W hW => like_any _ _ Ka Kw W (Ia.out.below hW).1 (Ih.out.below hW).1 (Ia.out.below hW).2.1 (Ih.out.below hW).2.1 hah' hla'
  have huol : (Ku.filter posC).length = (Ko.filter posC).length := plain_len huo
  have HU : Hid ((Ku.filter posC) = [] ∨ ∃ b off, Au = some ⟨b, off, none⟩ ∧ b < w10.heap.size ∧ AtG encC 2 w10 b off (Ku.filter posC)) := cnt_at Iu.out.1
  have HO : Hid (((Ko.filter posC).map oneC) = [] ∨ ∃ b off, Ao = some ⟨b, off, none⟩ ∧ b < w10.heap.size ∧ AtG encC 2 w10 b off ((Ko.filter posC).map oneC)) := cnt_at Io.out.1
  have HRU : Hid (∀ W, Below w10.heap.size w10 W → RowsIn W (Ku.filter posC)) := fun W hW => (Iu.out.below hW).2.1
  have HRO : Hid (∀ W, Below w10.heap.size w10 W → RowsIn W ((Ko.filter posC).map oneC)) := fun W hW => (Io.out.below hW).2.1
  have hol : ((Ko.filter posC).map oneC).length = (Ku.filter posC).length := by rw [List.length_map, huol]
  have HUO := Lib.hid huo
  have HPOS := Lib.hid hpos
  clear hah' huo' huo hpos hla' huol Ta Tu Tm Td Tb Th To HLX HPX HLu HPu HLm HPm HLd HPd HLb HPb HUB HPUB HSX PL HI HZ0 HZ1 HZ2 Ia Iu Im Id Ib Ih Io Is1
  have hu61 : (Ku.filter posC).length ≤ 60 := hu60
  revert HU HO HRU HRO HPOS HUO hol hu61
  generalize Ku.filter posC = U
  generalize Ko.filter posC = O
  intro HU HO HRU HRO hol HUO HPOS hu61
  go_wp2_with fail
  have bE := Blk.new w10 #[.int .i64 0, .int .i64 0, .int .i64 0, .int .i64 0, .int .i64 0, .int .i64 0, .int .i64 0] 24
  have HE : Hid (∀ k : Nat, k < 7 → (w10.alloc (.cells #[.int .i64 0, .int .i64 0, .int .i64 0, .int .i64 0, .int .i64 0, .int .i64 0, .int .i64 0] 24)).cell? ⟨w10.heap.size, k, none⟩ = some (.int .i64 0)) := by
    intro k hk
    rw [bE.cell k]
    match k, hk with
    | 0, _ => rfl
    | 1, _ => rfl
    | 2, _ => rfl
    | 3, _ => rfl
    | 4, _ => rfl
    | 5, _ => rfl
    | 6, _ => rfl
  clear bE
  go_loop [72] (fun i => ∃ k : Nat, k ≤ 7 ∧ i = .int .i64 k) (fun i => 7 - (intOf i).toNat)
  case atStart => exact ⟨0, by omega, rfl⟩
  case round =>
    obtain ⟨k, hk, rfl⟩ := hrel
    by_cases hlt : k < 7
    · have hce := HE.out k hlt
      go_wp2
      go_round
      case rel => exact ⟨k + 1, by omega, by go_num⟩
      case measure => simp [intOf]; omega
    · obtain rfl : k = 7 := by omega
      have hkk0 := (Below.refl w10.heap.size w10).alloc (Nat.le_refl _) (.cells #[.int .i64 0, .int .i64 0, .int .i64 0, .int .i64 0, .int .i64 0, .int .i64 0, .int .i64 0] 24)
      go_wp2_with fail
      refine (known_any _).mono ?_
      rintro e wk ⟨rfl, hbk⟩
      have hkk := hkk0.trans (hbk.mono hkk0.size)
      go_wp2_with fail
      refine (HK1.out _ hkk).mono ?_
      rintro e wl ⟨rfl, hbl⟩
      have hll := hkk.trans (hbl.mono hkk.size)
      go_wp2_with fail
      go_loopw [96] (fun i wr => ∃ k : Nat, k ≤ U.length ∧ i = .int .i64 k ∧ Below wl.heap.size wl wr) (fun i _ => U.length - (intOf i).toNat)
      case atStart => exact ⟨0, Nat.zero_le _, rfl, Below.refl _ _⟩
      case round =>
        obtain ⟨k, hk, rfl, hbr⟩ := hrel
        have hwr := hll.trans (hbr.mono hll.size)
        have hzr := hwr.size
        by_cases hlt : k < U.length
        · have hltO : k < O.length := by rw [List.length_map] at hol; omega
          obtain ⟨bu, ou, rfl, hbu, hatu⟩ := HU.out.resolve_left (by rintro rfl; simp at hlt)
          obtain ⟨bo, oo, rfl, hbo, hato⟩ := HO.out.resolve_left (by intro h; rw [h] at hol; simp at hol; omega)
          have hO : (O.map oneC)[k]? = some (oneC O[k]) := by rw [List.getElem?_map, List.getElem?_eq_getElem hltO]; rfl
          have e0 := (hwr.cell (p := ⟨bo, oo + k * 2 + 0, none⟩) hbo).trans (hato k _ hO 0 _ rfl)
          have e1 := (hwr.cell (p := ⟨bo, oo + k * 2 + 1, none⟩) hbo).trans (hato k _ hO 1 _ rfl)
          have g0 := (hwr.cell (p := ⟨bu, ou + k * 2 + 0, none⟩) hbu).trans (hatu k _ (List.getElem?_eq_getElem hlt) 0 _ rfl)
          have g1 := (hwr.cell (p := ⟨bu, ou + k * 2 + 1, none⟩) hbu).trans (hatu k _ (List.getElem?_eq_getElem hlt) 1 _ rfl)
          rw [Nat.add_zero] at e0 g0
          have hrow : O[k].l = U[k].l := (plain_get HUO.out k hlt hltO).1.symm
          have h1 := HPOS.out _ (List.getElem_mem hlt)
          have HSM : Hid (∀ W, Below w10.heap.size w10 W → Calls Try.prog 31 #[O[k].v, U[k].v] W (BoolPost true W)) := fun W hW => by
            have h := refSame_any (oneC O[k]).v U[k].v (oneC O[k]).l U[k].l W (HRO.out W hW _ (List.mem_of_getElem? hO)) (HRU.out W hW _ (List.getElem_mem hlt))
            have e : cmpR (oneC O[k]).l U[k].l = 0 := by
              show cmpR O[k].l U[k].l = 0
              rw [hrow]; exact cmpR_self _
            rw [e] at h
            exact h
          replace e0 : wr.cell? ⟨bo, oo + k * 2, none⟩ = some O[k].v := e0
          replace e1 : wr.cell? ⟨bo, oo + k * 2 + 1, none⟩ = some (.int .i64 1) := e1
          obtain ⟨Ax, nx, cx, hxv⟩ : ∃ A n c, O[k].v = .slice A n c := by
            rcases HRO.out _ (Below.refl _ _) _ (List.mem_of_getElem? hO) with ⟨_, _, h, _⟩ | ⟨b, o, c, h, _⟩
            · exact ⟨_, _, _, h⟩
            · exact ⟨_, _, _, h⟩
          rw [hxv] at e0 HSM
          clear hatu hato hO hrow hxv
          revert g0 g1 h1 HSM
          generalize U[k].n = un
          generalize U[k].v = uv
          intro g0 g1 h1 HSM
          have hun : ¬ un < 1 := by omega
          have bX := Blk.new wr #[.slice Ax nx cx, .int .i64 1] 44
          have bX0 := bX.cell 0
          have bX1 := bX.cell 1
          simp only [List.getElem?_toArray, List.getElem?_cons_zero, List.getElem?_cons_succ] at bX0 bX1
          have hwa := hwr.alloc hzr (.cells #[.slice Ax nx cx, .int .i64 1] 44)
          have gX0 := (World.cell?_alloc_lt wr (.cells #[.slice Ax nx cx, .int .i64 1] 44) ⟨bu, ou + k * 2, none⟩ (Nat.lt_of_lt_of_le hbu hzr)).trans g0
          have gX1 := (World.cell?_alloc_lt wr (.cells #[.slice Ax nx cx, .int .i64 1] 44) ⟨bu, ou + k * 2 + 1, none⟩ (Nat.lt_of_lt_of_le hbu hzr)).trans g1
          have k0 := fun n : Kept (wr.alloc (.cells #[.slice Ax nx cx, .int .i64 1] 44)) => n.cell bX0
          have k1 := fun n : Kept (wr.alloc (.cells #[.slice Ax nx cx, .int .i64 1] 44)) => n.cell bX1
          have k2 := fun n : Kept (wr.alloc (.cells #[.slice Ax nx cx, .int .i64 1] 44)) => n.cell gX0
          have k3 := fun n : Kept (wr.alloc (.cells #[.slice Ax nx cx, .int .i64 1] 44)) => n.cell gX1
          have HC2 : Hid (∀ n : Kept (wr.alloc (.cells #[.slice Ax nx cx, .int .i64 1] 44)), Calls Try.prog 31 #[.slice Ax nx cx, uv] n.w fun e w' => e = .returned (.bool true) ∧ Below n.w.heap.size n.w w') := fun n => (HSM.out n.w (hwa.trans (n.h.mono hwa.size))).mono fun _ _ h => ⟨h.1, h.2.toBelow⟩
          go_wp2_with fail
          refine wp_region_kept (by kernel_rfl) (by kernel_rfl) ?_
          repeat (go_big_quiet_step ((go_at_call 31; exact Calls.kept (HC2.out _))))
          refine wpQuiet_nil ?_
          intro wq hw'
          obtain ⟨⟨wq2, hwq⟩, hw''⟩ := hw'
          simp only at hw''
          subst hw''
          go_wp2
          go_roundw
          case rel => exact ⟨k + 1, by omega, by go_num, (hbr.alloc hbr.size _).trans (hwq.mono (by have := hbr.size; simp; omega))⟩
          case measure => simp [intOf]; omega
        · obtain rfl : k = U.length := by omega
          go_wp2
          go_ret
          exact ⟨rfl, hc10.trans (hwr.mono hc10.size)⟩

end Go.Proofs.Ytciijaejldfcaaa
