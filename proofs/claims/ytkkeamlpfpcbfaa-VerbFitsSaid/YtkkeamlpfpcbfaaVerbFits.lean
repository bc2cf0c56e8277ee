/-
  For every input VerbFits returns true, and each argument reads afterwards as before: package verb keeps the document here. No condition.
-/
import Derived.Test.YtkkeamlpfpcbfaaRows
import Derived.Test.YtkkeamlpfpcbfaaUc
import Derived.WalkKit
import Derived.ProofKit
import Derived.OpenShut
import Derived.ShutString
import Derived.ChangeOld
import Derived.Below
namespace Go.Proofs.Ytkkeamlpfpcbfaa.verbFits
open Go.ChangeShapes Go.WideShapes Go.ChangeAt Go.RowKit Ga Va Vb Vc Vd Ve Vf Vg Vh Vi Vk Vl Vs Vt Vw Vx Vy Vz Vq Ua Ub Uc
set_option linter.unusedSimpArgs false
set_option linter.unusedVariables false

theorem own : ownKnob Try.prog.godebug = none := by kernel_rfl
theorem laidOut : laidOutB Try.prog = true := of_decide_eq_true (by kernel_rfl)

set_option maxRecDepth 100000 in
set_option maxHeartbeats 16000000 in
theorem walk (a0 : Option Addr) (len0 cap0 : Nat) (a1 : Option Addr) (len1 cap1 : Nat) (z1 : List Dp) (a2 : Option Addr) (len2 cap2 : Nat) (z2 : List Int) (w : World) (w0 : IsRaws w a0 len0 cap0) (w1 : IsDones w a1 len1 cap1 z1) (w2 : IsRow .i64 w a2 len2 cap2 z2) :
    Calls Try.prog 8 #[.slice a0 len0 cap0, .slice a1 len1 cap1, .slice a2 len2 cap2] w fun e w' => e = .returned (.bool true) ∧ Below w.heap.size w w' := by
  have hl0 := w0.len
  have hl1 : len1 ≤ cap1 := w1.2.1
  have hl1' := w1.2.2.1
  have hl2 := w2.len.2
  have hD := Lk.mk (show us_ok w a1 len1 z1 from ⟨w1.1, w1.2.2.2.1, w1.2.2.2.2⟩)
  have HRa := Lk.mk w0
  have HCo := Lk.mk w2
  clear w0 w1 w2
  unfold maxLen at hl2
  have HF0 := Lk.mk (Fx.start w)
  obtain ⟨iv, hvi, hv0, hv1, hv2⟩ := info_parts vinfo
  obtain ⟨id_, hdi, hd0, hd1, hd2⟩ := info_parts dinfo
  obtain ⟨iu, hui, hu0, hu1, hu2⟩ := info_parts u64info
  go_enter Try.func8, Try.ntmps8
  by_cases hb0 : 12 < len0
  · go_wp2
    go_ret
    exact ⟨rfl, Below.refl _ _⟩
  by_cases hb1 : 12 < len1
  · go_wp2
    go_ret
    exact ⟨rfl, Below.refl _ _⟩
  go_upto_block 0 with fail
  go_cut [7, 8] (fun s7 s8 wx => ∃ (vs : List Vp) (ds : List Dp), Lk (Fx w wx s7 s8 vs ds len0 len0))
  case first =>
    go_wp2_with fail
    go_loopw [7, 8, 9] (fun s7 s8 s9 wr => ∃ (k : Nat) (vs : List Vp) (ds : List Dp), k ≤ len0 ∧ s9 = .int .i64 k ∧ Lk (Fx w wr s7 s8 vs ds k k)) (fun _ _ s9 _ => len0 - (intOf s9).toNat)
    case atStart => exact ⟨0, [], [], by omega, rfl, HF0⟩
    case round =>
      clear HF0
      obtain ⟨k, vs, ds, hk, rfl, HX⟩ := hrel
      by_cases hlt : k < len0
      · obtain ⟨p, rfl, HR0⟩ := HRa.out.at_ hlt
        have HR1 := Lk.mk (HR0.on HX.out.below)
        clear HR0
        obtain ⟨q0, q1, q2, q3, q4, q5, q6, q7, r0, r1, r2, r3, r4, r5, r6, r7, ⟨⟨ak0, ak1⟩, ⟨ad0, ad1⟩, ⟨aa0, aa1⟩, ⟨an0, an1⟩, ⟨ae0, ae1⟩, ⟨ab0, ab1⟩, ⟨ax0, ax1⟩, ⟨ay0, ay1⟩⟩⟩ := HR1.out
        clear HR1
        obtain ⟨x, rfl⟩ := Int.eq_ofNat_of_zero_le ax0
        obtain ⟨y, rfl⟩ := Int.eq_ofNat_of_zero_le ay0
        have CO := fun w => of_any q0 q1 q2 q3 q4 q5 x y w ak0 ak1 ad0 ad1 aa0 aa1 an0 an1 ae0 ae1 ab0 ab1 (by omega) (by omega)
        have hM := pk_lt q3 23 (by omega)
        have hN := rawN_hi q3
        generalize rawN q3 = N at *
        generalize hws : rawW y (pk q3 23) = ws at *
        clear hws
        generalize (pk q0 6 : Int) = kk at *
        generalize (pk q1 7 : Int) - 1 = nd at *
        generalize (pk q2 900 : Int) - 8 = aa at *
        generalize (pk q4 4 : Int) = ky at *
        generalize (pk q5 3 : Int) = bo at *
        generalize pk q3 23 = ma at *
        clear ak0 ak1 ad0 ad1 aa0 aa1 an0 an1 ae0 ae1 ab0 ab1 ax0 ax1 ay0 ay1
        go_upto_region 9 with (first | (go_at_call 9; refine (CO _).mono ?_; rintro e wa ⟨A, cap, rfl, hca, HLi, HBa, HFa⟩))
        have HX1 := Lk.mk (HX.out.on (HBa.out.alloc HBa.out.size (.cells #[Value.int IntKind.i64 kk, Value.int IntKind.i64 nd, Value.int IntKind.i64 aa, Value.int IntKind.i64 N, Value.int IntKind.u64 x, Value.int IntKind.u64 y, Value.slice A ma cap, Value.int IntKind.u64 ky, Value.int IntKind.i64 bo] 25)))
        have HGs := Lk.mk (fun (b : Nat) hb => Nat.lt_of_lt_of_le (HX.out.a.lt b hb).2 HBa.out.size)
        have HGt := Lk.mk (fun (b : Nat) hb => Nat.lt_of_lt_of_le (HX.out.m.lt b hb).2 HBa.out.size)
        have HXb := Lk.mk (Bx.alloc wa kk nd aa N x y A ma cap ky bo 25)
        clear r0 r1 r2 r3 r4 r5 r6 r7 CO HX HBa HFa HLi
        generalize wa.alloc _ = W1 at *
        generalize wa.heap.size = g at *
        have CV := fun w => validR_ok kk nd aa N x y A ma cap ky bo w 5 256 (cnt_hi (by omega) (by omega))
        have HV := Lk.mk (fun (h : validC kk nd aa (cnt kk N ma) 5 256 = 0) => validC_zero h)
        generalize validC kk nd aa (cnt kk N ma) 5 256 = vc at *
        obtain ⟨b0, b1, b2, b3, b4, b5, b6, b7, b8⟩ := HXb.out
        by_cases hv : vc = 0
        · have HV2 := Lk.mk (HV.out hv)
          clear HV
          subst hv
          go_upto_region 11 with (first | (go_at_call 13; refine (CV _).mono ?_; rintro e wb ⟨rfl, HBb⟩))
          have HX2 := Lk.mk (HX1.out.on HBb.out)
          have HXb2 := Lk.mk (HXb.out.on HBb.out)
          have HGb := Lk.mk (show g < wb.heap.size from block_lt_of_cell HXb2.out.c0)
          clear b0 b1 b2 b3 b4 b5 b6 b7 b8 HX1 HXb HBb CV
          obtain ⟨b0, b1, b2, b3, b4, b5, b6, b7, b8⟩ := HXb2.out
          have HXa := Lk.mk (HX2.out.on ((Below.refl _ wb).alloc (Nat.le_refl _) (.cells #[Value.int IntKind.i64 kk, Value.int IntKind.i64 nd, Value.int IntKind.i64 aa, Value.int IntKind.i64 N, Value.int IntKind.u64 x, Value.int IntKind.u64 y, Value.slice A ma cap, Value.int IntKind.u64 ky, Value.int IntKind.i64 bo] 25)))
          have HXba := Lk.mk (HXb2.out.on ((Below.refl _ wb).alloc (Nat.le_refl _) (.cells #[Value.int IntKind.i64 kk, Value.int IntKind.i64 nd, Value.int IntKind.i64 aa, Value.int IntKind.i64 N, Value.int IntKind.u64 x, Value.int IntKind.u64 y, Value.slice A ma cap, Value.int IntKind.u64 ky, Value.int IntKind.i64 bo] 25)))
          go_wp2_with (first
            | (at_builtin; refine wpList_append_own _ rfl _ _ 47 rfl w.heap.size 25 iv (.agg #[.int .i64 0, .int .i64 0, .int .i64 0, .int .i64 0, .int .u64 0, .int .u64 0, .slice none 0 0, .int .u64 0, .int .i64 0]) 9 88 Try.underlying47 hvi hv0 hv1 hv2 rfl (by decide) _ _ _ rfl HXa.out.a ⟨wb.heap.size, 0, none⟩ 1 1 (vcs ⟨⟨kk, nd, aa, N, x, y, ky, bo, ws⟩, A, ma, cap⟩) rfl rfl (cells_new _ _ _) (vcs_one _) ?c3 ?c4 ?c5 ?_))
          case c3 => unfold maxLen; omega
          case c4 => omega
          case c5 => exact HXa.out.below.size
          intro v1 w2 hown hgrow _
          have HX3 := Lk.mk (HXa.out.asked ⟨⟨kk, nd, aa, N, x, y, ky, bo, ws⟩, A, ma, cap⟩ HV2.out.1 hgrow hown)
          have HXb3 := Lk.mk (bx_grown HXba.out hgrow HGs.out)
          clear hown hgrow HX2 HXa HXba HXb2 b0 b1 b2 b3 b4 b5 b6 b7 b8
          obtain ⟨b0, b1, b2, b3, b4, b5, b6, b7, b8⟩ := HXb3.out
          go_upto_region 12 with fail
          have CR := fun w => returnsR_ok kk nd aa N x y A ma cap ky bo w HV2.out.1
          have hr := ret_bd ⟨HV2.out.1, HV2.out.2.1, HV2.out.2.2.1⟩
          obtain ⟨rn, hrn⟩ : ∃ rn : Nat, retC kk N ma = rn := ⟨_, (Int.toNat_of_nonneg hr.1).symm⟩
          rw [hrn] at CR hr
          clear hrn
          have hr2 : rn ≤ 2048 := by omega
          go_wp2_with (first
            | (go_at_call 21; refine (CR _).mono ?_; rintro e w3 ⟨rfl, HB3⟩; have HX4 := Lk.mk (HX3.out.on HB3.out); clear b0 b1 b2 b3 b4 b5 b6 b7 b8 HX3 HXb3 HB3)
            | (at_make; refine wpList_make_full _ rfl _ _ 23 rfl w.heap.size 22 iu (.int .u64 0) 1 Try.underlying23 hui hu0 hu1 .i64 .i64 _ _ rn rfl rfl rfl rfl ?b2 ?b3 ?b4 ?_))
          case b2 => rw [hu2]; omega
          case b3 => unfold maxLen; omega
          case b4 => exact HX4.out.below.size
          intro w4 hown hgrow
          have HX5 := Lk.mk (HX4.out.on (below_grown hgrow))
          have HD := Lk.mk (Dx.new HX5.out hown (by omega))
          have HGd := Lk.mk (rfl : w4.heap.size = w4.heap.size)
          clear hown hgrow HX4 HX5 HV2 CR HGs HGt HGb hN hM hca hr
          go_upto_region 13 with fail
          generalize w4.alloc _ = W5 at *
          generalize w4.heap.size = gd at *
          clear HGd
          go_upto_if 47 with fail
          generalize vs ++ [_] = vs1 at *
          go_cut [47] (fun _ W' => ∃ (code : Int) (A1 : Option Addr) (l1 c1 : Nat), Lk (Dx w W' v1 u8 vs1 ds (k + 1) k gd code A1 l1 c1))
          case first =>
            by_cases hk2 : k < len2
            · obtain ⟨p2, z, rfl, hz, z0, z1⟩ := row_at HCo.out hk2
              have hzc := (HD.out.fx.below.cell (block_lt_of_cell hz)).trans hz
              have C5 := fun w => pick_any z 5 w (by omega) (by omega) z0 z1
              have C11 := fun w => pick_any z 11 w (by omega) (by omega) z0 z1
              have h5 := pk_lt z 5 (by omega)
              generalize pk z 5 = t5 at *
              generalize pk z 11 = t11 at *
              have f0 := HD.out.f 0
              have d0 := HD.out.c0
              have hzw := Lk.mk hz
              clear hz z0 z1
              go_upto_region 14 with fail
              go_cut [54] (fun _ W' => ∃ code : Int, Lk (Dx w W' v1 u8 vs1 ds (k + 1) k gd code (some ⟨w3.heap.size, 0, none⟩) rn rn))
              case first =>
                clear C11
                have i0 := ix0
                have i1 := ix1
                have i2 := ix2
                have i3 := ix3
                have i4 := ix4
                obtain rfl | rfl | rfl | rfl | rfl : t5 = 0 ∨ t5 = 1 ∨ t5 = 2 ∨ t5 = 3 ∨ t5 = 4 := by omega
                all_goals go_wp2_with (first | (go_at_call 10; refine (C5 _).mono ?_; rintro e w' ⟨rfl, rfl⟩))
                all_goals go_meet
                all_goals exact ⟨_, ⟨HD.out.set0 _⟩⟩
              case rest =>
                clear HD hzc f0 d0 C5 h5
                obtain ⟨code, HD⟩ := hcut
                have d0 := HD.out.c0
                have f1 := HD.out.f 1
                have d1 := HD.out.c1
                go_upto_if 58 with fail
                go_cut [58] (fun _ W' => ∃ (A1 : Option Addr) (l1 c1 : Nat), l1 ≤ 2048 ∧ Lk (Dx w W' v1 u8 vs1 ds (k + 1) k gd code A1 l1 c1))
                case first =>
                  by_cases hc0 : code = 0
                  · subst hc0
                    go_wp2
                    go_meet
                    exact ⟨_, _, _, by omega, HD⟩
                  · have hc0' : (code != 0) = true := bne_iff_ne.2 hc0
                    go_wp2
                    go_meet
                    exact ⟨_, _, _, by omega, ⟨HD.out.set1⟩⟩
                case rest =>
                  clear HD d0 f1 d1
                  obtain ⟨A1, l1, c1, hl1m, HD⟩ := hcut
                  have hzc := (HD.out.fx.below.cell (block_lt_of_cell hzw.out)).trans hzw.out
                  have f1 := HD.out.f 1
                  have d1 := HD.out.c1
                  by_cases h4 : t11 = 4
                  · subst h4
                    obtain ⟨xs, hr⟩ := HD.out.r
                    have HR := Lk.mk hr
                    clear hr
                    have HDa := Lk.mk (HD.out.on ((Below.refl _ wc).alloc (Nat.le_refl _) (.cells #[Value.int .u64 1] 22)))
                    go_wp2_with (first
                      | (go_at_call 10; refine (C11 _).mono ?_; rintro e w' ⟨rfl, rfl⟩)
                      | (at_builtin; refine wpList_append_own _ rfl _ _ 23 rfl w.heap.size 22 iu (.int .u64 0) 1 8 Try.underlying23 hui hu0 hu1 hu2 rfl (by decide) _ _ _ rfl (HR.out.alloc _) ⟨wc.heap.size, 0, none⟩ 1 1 [.int .u64 1] rfl rfl (cells_new _ _ _) ?g2 ?g3 ?g4 ?g5 ?_))
                    case g2 => intro u hu; simp at hu; subst hu; rfl
                    case g3 => unfold maxLen; omega
                    case g4 => omega
                    case g5 => exact HDa.out.fx.below.size
                    intro v3 w7 hown hgrow _
                    have HW := HDa.out.app hgrow (by omega) hown
                    clear hown hgrow
                    obtain ⟨A2, c2, rfl, hD2, e1, e2⟩ := HW
                    have HD2 := Lk.mk hD2
                    clear hD2
                    go_wp2
                    go_meet
                    exact ⟨_, _, _, _, HD2⟩
                  · go_wp2_with (first | (go_at_call 10; refine (C11 _).mono ?_; rintro e w' ⟨rfl, rfl⟩))
                    go_meet
                    exact ⟨_, _, _, _, HD⟩
            · go_wp2
              go_meet
              exact ⟨_, _, _, _, HD⟩
          case rest =>
            clear HD
            obtain ⟨code, A1, l1, c1, HD⟩ := hcut
            have d0 := HD.out.c0
            have d1 := HD.out.c1
            have HDa := Lk.mk (HD.out.fx.on ((Below.refl _ wc).alloc (Nat.le_refl _) (.cells #[Value.int IntKind.i64 code, Value.slice A1 l1 c1] 55)))
            go_wp2_with (first
              | (at_builtin; refine wpList_append_own _ rfl _ _ 52 rfl w.heap.size 55 id_ (.agg #[.int .i64 0, .slice none 0 0]) 2 32 Try.underlying52 hdi hd0 hd1 hd2 rfl (by decide) _ _ _ rfl HDa.out.m ⟨wc.heap.size, 0, none⟩ 1 1 (dcs ⟨code, A1, l1, c1⟩) rfl rfl (cells_new _ _ _) (dcs_one _) ?e3 ?e4 ?e5 ?_))
            case e3 => unfold maxLen; omega
            case e4 => omega
            case e5 => exact HDa.out.below.size
            intro v2 w6 hown hgrow _
            have HX7 := Lk.mk (HDa.out.made ⟨code, A1, l1, c1⟩ hgrow hown)
            clear hown hgrow HD HDa d0 d1
            go_wp2_with fail
            go_roundw
            case rel => exact ⟨k + 1, _, _, by omega, by go_num, HX7⟩
            case measure => simp [intOf]; omega
        · have hv' : (vc != 0) = true := bne_iff_ne.2 hv
          clear HV
          go_wp2_with (first | (go_at_call 13; refine (CV _).mono ?_; rintro e wb ⟨rfl, HBb⟩) | (go_at_call 11; refine (awake_any _).mono ?_; rintro e wz ⟨rfl, HBz⟩))
          go_ret
          exact ⟨rfl, HX1.out.below.trans ((HBb.out.trans (HBz.out.mono HBb.out.size)).mono HX1.out.below.size)⟩
      · obtain rfl : k = len0 := by omega
        go_wp2
        go_meet
        exact ⟨vs, ds, HX⟩
  case rest =>
    clear HF0
    obtain ⟨vs, ds, HX⟩ := hcut
    obtain ⟨A7, c7, rfl⟩ := own_slice HX.out.a
    obtain ⟨A8, c8, rfl⟩ := own_slice HX.out.m
    have HV := Lk.mk HX.out.vrow
    have HM := Lk.mk HX.out.drow
    have HG := Lk.mk (hD.out.2.1.on HX.out.below)
    have HNa := Lk.mk HX.out.na
    have HNm := Lk.mk HX.out.nm
    have HNg := Lk.mk hD.out.1
    have HOk := Lk.mk HX.out.ok
    have HBw := Lk.mk HX.out.below
    have HLg := Lk.mk hD.out.2.2
    clear HX hD HRa HCo
    go_wp2_with fail
    go_loop [12] (fun s12 => ∃ k : Nat, k ≤ len1 ∧ s12 = .int .i64 k) (fun s12 => len1 - (intOf s12).toNat)
    case atStart => exact ⟨0, by omega, rfl⟩
    case round =>
      obtain ⟨k, hk, rfl⟩ := hrel
      by_cases hlt : k < len1
      · have hkz : k < z1.length := by have := HNg.out; omega
        obtain ⟨p, rfl, hc⟩ := HG.out (by omega)
        have HC := Lk.mk (hc k hkz)
        have hll := HLg.out k hkz
        clear hc
        generalize z1[k] = d at *
        obtain ⟨dc, dA, dl, dcp⟩ := d
        obtain ⟨d0, d1⟩ := HC.out
        dsimp only at d0 d1 hll
        by_cases hbig : 100 < dl
        · go_wp2
          go_ret
          exact ⟨rfl, HBw.out⟩
        · go_wp2_with fail
          go_round
          case rel => exact ⟨k + 1, by omega, by go_num⟩
          case measure => simp [intOf]; omega
      · obtain rfl : k = len1 := by omega
        have CF1 := fun (wb : World) (hb : Lk (Below wc.heap.size wc wb)) => Fit_any A7 a1 len0 c7 k cap1 vs z1 wb HNa.out HNg.out ⟨HV.out.on hb.out⟩ ⟨HG.out.on hb.out⟩ (by omega) (by omega)
        have CF2 := fun (wb : World) (hb : Lk (Below wc.heap.size wc wb)) => FitR_any A7 a1 len0 c7 k cap1 vs z1 wb HNa.out HNg.out ⟨HV.out.on hb.out⟩ ⟨HG.out.on hb.out⟩ (by omega) (by omega) HOk
        have CF3 := fun (wb : World) (hb : Lk (Below wc.heap.size wc wb)) => Fit_any A7 A8 len0 c7 len0 c8 vs ds wb HNa.out HNm.out ⟨HV.out.on hb.out⟩ ⟨HM.out.on hb.out⟩ (by omega) (by omega)
        have CF4 := fun (wb : World) (hb : Lk (Below wc.heap.size wc wb)) => FitR_any A7 A8 len0 c7 len0 c8 vs ds wb HNa.out HNm.out ⟨HV.out.on hb.out⟩ ⟨HM.out.on hb.out⟩ (by omega) (by omega) HOk
        have CS1 := fun (wb : World) (hb : Lk (Below wc.heap.size wc wb)) => first_any a1 k cap1 z1 wb HNg.out ⟨HG.out.on hb.out⟩ (by omega)
        have CS2 := fun (wb : World) (hb : Lk (Below wc.heap.size wc wb)) => firstR_any a1 k cap1 z1 wb HNg.out ⟨HG.out.on hb.out⟩ (by omega)
        have CS3 := fun (wb : World) (hb : Lk (Below wc.heap.size wc wb)) => first_any A8 len0 c8 ds wb HNm.out ⟨HM.out.on hb.out⟩ (by omega)
        have CS4 := fun (wb : World) (hb : Lk (Below wc.heap.size wc wb)) => firstR_any A8 len0 c8 ds wb HNm.out ⟨HM.out.on hb.out⟩ (by omega)
        generalize fitA vs z1 = R1 at *
        generalize fitA vs ds = R2 at *
        generalize firstC (codes z1) = R3 at *
        generalize firstC (codes ds) = R4 at *
        clear HV HM HG HNa HNm HNg HOk HLg
        go_wp2_with (first
      | (go_at_call 11; refine (awake_any _).mono ?_; rintro e wz ⟨rfl, HB⟩)
      | (go_at_call_of 28 (Value.slice a1 k cap1); refine (CF1 _ HB).mono ?_; rintro e wz ⟨rfl, HBz⟩; have HB := Lk.mk (HB.out.trans (HBz.out.mono HB.out.size)))
      | (go_at_call_of 29 (Value.slice a1 k cap1); refine (CF2 _ HB).mono ?_; rintro e wz ⟨rfl, HBz⟩; have HB := Lk.mk (HB.out.trans (HBz.out.mono HB.out.size)))
      | (go_at_call_of 28 (Value.slice A8 len0 c8); refine (CF3 _ HB).mono ?_; rintro e wz ⟨rfl, HBz⟩; have HB := Lk.mk (HB.out.trans (HBz.out.mono HB.out.size)))
      | (go_at_call_of 29 (Value.slice A8 len0 c8); refine (CF4 _ HB).mono ?_; rintro e wz ⟨rfl, HBz⟩; have HB := Lk.mk (HB.out.trans (HBz.out.mono HB.out.size)))
      | (go_at_call_of 30 (Value.slice a1 k cap1); refine (CS1 _ HB).mono ?_; rintro e wz ⟨rfl, HBz⟩; have HB := Lk.mk (HB.out.trans (HBz.out.mono HB.out.size)))
      | (go_at_call_of 31 (Value.slice a1 k cap1); refine (CS2 _ HB).mono ?_; rintro e wz ⟨rfl, HBz⟩; have HB := Lk.mk (HB.out.trans (HBz.out.mono HB.out.size)))
      | (go_at_call_of 30 (Value.slice A8 len0 c8); refine (CS3 _ HB).mono ?_; rintro e wz ⟨rfl, HBz⟩; have HB := Lk.mk (HB.out.trans (HBz.out.mono HB.out.size)))
      | (go_at_call_of 31 (Value.slice A8 len0 c8); refine (CS4 _ HB).mono ?_; rintro e wz ⟨rfl, HBz⟩; have HB := Lk.mk (HB.out.trans (HBz.out.mono HB.out.size))))
        go_ret
        first | exact ⟨rfl, HBw.out.trans (HB.out.mono HBw.out.size)⟩ | exact ⟨ret_bool (by simp), HBw.out.trans (HB.out.mono HBw.out.size)⟩

set_option maxRecDepth 100000 in
theorem lifted (os : Os) (started : os.Started) (H : Type) (enc : TypeId × Value → H) :
    ReturnsInHanded {} Try.checked os 8 .any (Rows.verbFitsSpec.pre6 enc Try.prog Try.f8 Rows.verbFitsRow.domain false) (Rows.verbFitsSpec.post enc Try.prog Try.f8 false true false false) := by
  refine returnsInHanded_of_change (C := Try.checked) own started (by kernel_rfl) Try.func8
    (ChangeSpec.witness6 (enc := enc) (C := Try.checked) false ⟨#[], #[.slice none 0 0, .slice none 0 0, .slice none 0 0], []⟩ 8 (by kernel_rfl) (by kernel_rfl) (by kernel_rfl) (by kernel_rfl)) ?_
  intro W base args ds gs before hval0 hW hcnd _
  have hval : ∀ (j : Nat) t v, Try.f8.params[j]? = some t → args[j]? = some v → Value.okWide Try.prog W .any base t v := hval0
  have hW' := hW
  obtain ⟨p, q, hA0, hV, rfl, hfz, hnd⟩ := hW
  have hA : DataW.TrodAll enc Try.prog W 0 (fun _ => true) true Try.f8.params.toList args.toList ds p := hA0
  rw [Try.params8] at hA hval
  obtain ⟨v0, vs0, d0, ds0, p0, q0, hargs, rfl, rfl, h0, r0⟩ := trodAll_cons hA
  obtain ⟨v1, vs1, d1, ds1, p1, q1, rfl, rfl, rfl, h1, r1⟩ := trodAll_cons r0
  obtain ⟨v2, vs2, d2, ds2, p2, q2, rfl, rfl, rfl, h2, r2⟩ := trodAll_cons r1
  obtain ⟨rfl, rfl, rfl⟩ := trodAll_nil r2
  obtain rfl : args = #[v0, v1, v2] := by cases args; simp_all
  obtain ⟨rfl, rfl⟩ := trodVars_none hV
  obtain ⟨a0, len0, cap0, rfl⟩ := okWide_slice Try.underlying51 (hval 0 51 v0 rfl rfl)
  have k0 := h0
  have lt0 : ∀ x ∈ p0, x.block < W.heap.size := by obtain ⟨m, hm⟩ := k0; exact DataW.trod_lt m _ _ _ hm
  have w0 : IsRaws W a0 len0 cap0 := by
    obtain ⟨fuel, hf⟩ := h0
    exact raws_of hf
  obtain ⟨a1, len1, cap1, rfl⟩ := okWide_slice Try.underlying52 (hval 1 52 v1 rfl rfl)
  have k1 := h1
  have lt1 : ∀ x ∈ p1, x.block < W.heap.size := by obtain ⟨m, hm⟩ := k1; exact DataW.trod_lt m _ _ _ hm
  obtain ⟨z1, w1⟩ : ∃ us, IsDones W a1 len1 cap1 us := by
    obtain ⟨fuel, hf⟩ := h1
    exact dones_of hf
  obtain ⟨a2, len2, cap2, rfl⟩ := okWide_slice Try.underlying53 (hval 2 53 v2 rfl rfl)
  have k2 := h2
  have lt2 : ∀ x ∈ p2, x.block < W.heap.size := by obtain ⟨m, hm⟩ := k2; exact DataW.trod_lt m _ _ _ hm
  obtain ⟨z2, w2⟩ : ∃ zs, IsRow .i64 W a2 len2 cap2 zs := by
    obtain ⟨fuel, hf⟩ := h2
    exact nums_of hf
  clear hA0 hval0
  refine (walk a0 len0 cap0 a1 len1 cap1 z1 a2 len2 cap2 z2 W w0 w1 w2).mono fun e W' ⟨he, bel⟩ => ?_
  subst he
  exact ⟨_, rfl, _, _, _, [], _, [], hW', trodAll_mk1 (shut_bool Try.underlying4 _), (trodAll_cons_mk (Below.trod laidOut (by kernel_rfl) (of_decide_eq_true (by kernel_rfl)) k0 bel lt0) (trodAll_cons_mk (Below.trod laidOut (by kernel_rfl) (of_decide_eq_true (by kernel_rfl)) k1 bel lt1) (trodAll_cons_mk (Below.trod laidOut (by kernel_rfl) (of_decide_eq_true (by kernel_rfl)) k2 bel lt2) trodAll_mk0))), rfl, bel.frame _, fun h => by cases h⟩

theorem over : Rows.verbFitsRow.holds Try.pinned (OpenSpec.ofChange Rows.verbFitsSpec) :=
  OpenClaim.holds_of_wide 8 Try.f8 rfl rfl rfl rfl rfl rfl rfl ⟨rfl, rfl, rfl, rfl, rfl⟩ rfl rfl rfl rfl rfl (by kernel_rfl) Try.func8 (by kernel_rfl)
    (of_decide_eq_true (by kernel_rfl)) (by unfold Func.isWrapper; first | (rw [if_pos (by decide +kernel)]; kernel_rfl) | (rw [if_neg (by decide +kernel)]; exact ⟨rfl, rfl⟩))
    (fun os started H enc _ => lifted os started H enc)

/-- ████ THE STATEMENT ████ -/
theorem proved : Rows.VerbFitsSaid := over
end Go.Proofs.Ytkkeamlpfpcbfaa.verbFits
