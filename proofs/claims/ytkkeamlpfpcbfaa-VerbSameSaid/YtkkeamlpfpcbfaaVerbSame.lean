/-
  For every input VerbSame returns true, and each argument reads afterwards as before: package verb keeps the document here. No condition.
-/
import Derived.Test.YtkkeamlpfpcbfaaRows
import Derived.Test.YtkkeamlpfpcbfaaVo
import Derived.WalkKit
import Derived.ProofKit
import Derived.OpenShut
import Derived.ShutString
import Derived.ChangeOld
import Derived.Below
namespace Go.Proofs.Ytkkeamlpfpcbfaa.verbSame
open Go.ChangeShapes Go.WideShapes Go.ChangeAt Go.RowKit Ga Va Vb Vc Vd Ve Vf Vg Vh Vi Vk Vl Vs Vt Vw Vu Vm Vq Vo Vj
set_option linter.unusedSimpArgs false
set_option linter.unusedVariables false

theorem own : ownKnob Try.prog.godebug = none := by kernel_rfl
theorem laidOut : laidOutB Try.prog = true := of_decide_eq_true (by kernel_rfl)

set_option maxRecDepth 100000 in
set_option maxHeartbeats 16000000 in
theorem walk (q00 q01 q02 q03 q04 q05 q06 q07 : Int) (q10 q11 q12 q13 q14 q15 q16 q17 : Int) (q20 q21 q22 q23 q24 q25 : Int) (a2 : Option Addr) (len2 cap2 : Nat) (q27 q28 : Int) (z2 : List Int) (q30 q31 q32 q33 q34 q35 : Int) (a3 : Option Addr) (len3 cap3 : Nat) (q37 q38 : Int) (z3 : List Int) (a4 : Int) (w : World) (w0 : RawWf q00 q01 q02 q03 q04 q05 q06 q07) (w1 : RawWf q10 q11 q12 q13 q14 q15 q16 q17) (w2 : VbWf q20 q21 q22 q23 q24 q25 q27 q28) (r2 : IsRow .u64 w a2 len2 cap2 z2) (w3 : VbWf q30 q31 q32 q33 q34 q35 q37 q38) (r3 : IsRow .u64 w a3 len3 cap3 z3) (w4 : (Lit.int .i64 a4).wf = true) :
    Calls Try.prog 7 #[.agg #[.int .i64 q00, .int .i64 q01, .int .i64 q02, .int .i64 q03, .int .i64 q04, .int .i64 q05, .int .u64 q06, .int .u64 q07], .agg #[.int .i64 q10, .int .i64 q11, .int .i64 q12, .int .i64 q13, .int .i64 q14, .int .i64 q15, .int .u64 q16, .int .u64 q17], .agg #[.int .i64 q20, .int .i64 q21, .int .i64 q22, .int .i64 q23, .int .u64 q24, .int .u64 q25, .slice a2 len2 cap2, .int .u64 q27, .int .i64 q28], .agg #[.int .i64 q30, .int .i64 q31, .int .i64 q32, .int .i64 q33, .int .u64 q34, .int .u64 q35, .slice a3 len3 cap3, .int .u64 q37, .int .i64 q38], .int .i64 a4] w fun e w' => e = .returned (.bool true) ∧ Below w.heap.size w w' := by
  obtain ⟨⟨ak0, ak1⟩, ⟨ad0, ad1⟩, ⟨aa0, aa1⟩, ⟨an0, an1⟩, ⟨ae0, ae1⟩, ⟨ab0, ab1⟩, ⟨ax0, ax1⟩, ⟨ay0, ay1⟩⟩ := w0
  obtain ⟨⟨bk0, bk1⟩, ⟨bd0, bd1⟩, ⟨ba0, ba1⟩, ⟨bn0, bn1⟩, ⟨be0, be1⟩, ⟨bb0, bb1⟩, ⟨bx0, bx1⟩, ⟨by0, by1⟩⟩ := w1
  obtain ⟨xa, rfl⟩ := Int.eq_ofNat_of_zero_le ax0
  obtain ⟨ya, rfl⟩ := Int.eq_ofNat_of_zero_le ay0
  obtain ⟨xb, rfl⟩ := Int.eq_ofNat_of_zero_le bx0
  obtain ⟨yb, rfl⟩ := Int.eq_ofNat_of_zero_le by0
  have COa := fun w => of_any q00 q01 q02 q03 q04 q05 xa ya w ak0 ak1 ad0 ad1 aa0 aa1 an0 an1 ae0 ae1 ab0 ab1 (by omega) (by omega)
  have COb := fun w => of_any q10 q11 q12 q13 q14 q15 xb yb w bk0 bk1 bd0 bd1 ba0 ba1 bn0 bn1 be0 be1 bb0 bb1 (by omega) (by omega)
  have hMa := pk_lt q03 23 (by omega)
  have hMb := pk_lt q13 23 (by omega)
  have HLa := Lk.mk (rawW_len ya (pk q03 23))
  have HLb := Lk.mk (rawW_len yb (pk q13 23))
  have hva := r2.lies wf64
  have hvb := r3.lies wf64
  have hla := r2.len
  have hlb := r3.len
  generalize rawN q03 = Na at *
  generalize rawW ya (pk q03 23) = wsa at *
  generalize (pk q00 6 : Int) = ka at *
  generalize (pk q01 7 : Int) - 1 = nda at *
  generalize (pk q02 900 : Int) - 8 = aa at *
  generalize (pk q04 4 : Int) = kya at *
  generalize (pk q05 3 : Int) = boa at *
  generalize pk q03 23 = ma at *
  generalize rawN q13 = Nb at *
  generalize rawW yb (pk q13 23) = wsb at *
  generalize (pk q10 6 : Int) = kb at *
  generalize (pk q11 7 : Int) - 1 = ndb at *
  generalize (pk q12 900 : Int) - 8 = ab at *
  generalize (pk q14 4 : Int) = kyb at *
  generalize (pk q15 3 : Int) = bob at *
  generalize pk q13 23 = mb at *
  have hi4 := bounds_i64 w4
  have CP := fun w => pick_any a4 9 w (by omega) (by omega) hi4.1 hi4.2
  clear ak0 ak1 ad0 ad1 aa0 aa1 an0 an1 ae0 ae1 ab0 ab1 bk0 bk1 bd0 bd1 ba0 ba1 bn0 bn1 be0 be1 bb0 bb1 ax0 ax1 ay0 ay1 bx0 bx1 by0 by1
  go_enter Try.func7, Try.ntmps7
  go_upto_region 1 with fail
  obtain ⟨m0, m1, m2, m3, mB⟩ := four w (.cells #[Value.int IntKind.i64 q00, Value.int IntKind.i64 q01, Value.int IntKind.i64 q02, Value.int IntKind.i64 q03, Value.int IntKind.i64 q04, Value.int IntKind.i64 q05, Value.int IntKind.u64 xa, Value.int IntKind.u64 ya] 27) (.cells #[Value.int IntKind.i64 q10, Value.int IntKind.i64 q11, Value.int IntKind.i64 q12, Value.int IntKind.i64 q13, Value.int IntKind.i64 q14, Value.int IntKind.i64 q15, Value.int IntKind.u64 xb, Value.int IntKind.u64 yb] 27) (.cells #[Value.int IntKind.i64 q20, Value.int IntKind.i64 q21, Value.int IntKind.i64 q22, Value.int IntKind.i64 q23, Value.int IntKind.u64 q24, Value.int IntKind.u64 q25, Value.slice a2 len2 cap2, Value.int IntKind.u64 q27, Value.int IntKind.i64 q28] 25) (.cells #[Value.int IntKind.i64 q30, Value.int IntKind.i64 q31, Value.int IntKind.i64 q32, Value.int IntKind.i64 q33, Value.int IntKind.u64 q34, Value.int IntKind.u64 q35, Value.slice a3 len3 cap3, Value.int IntKind.u64 q37, Value.int IntKind.i64 q38] 25)
  have HR0 := Lk.mk (raw_box m0)
  have HR1 := Lk.mk (raw_box m1)
  have HV2 := Lk.mk (Bx.of_heap m2)
  have HV3 := Lk.mk (Bx.of_heap m3)
  have HB4 := Lk.mk mB
  have HWv := Lk.mk (hva.on_ mB)
  have HWw := Lk.mk (hvb.on_ mB)
  clear m0 m1 m2 m3 mB hva hvb
  generalize (((w.alloc _).alloc _).alloc _).alloc _ = W at *
  obtain ⟨c0, c1, c2, c3, c4, c5, c6, c7, c8⟩ := HV2.out
  obtain ⟨d0, d1, d2, d3, d4, d5, d6, d7, d8⟩ := HV3.out
  by_cases hl2 : 200 < len2
  · go_wp2
    go_ret
    exact ⟨rfl, HB4.out⟩
  by_cases hl3 : 200 < len3
  · go_wp2
    go_ret
    exact ⟨rfl, HB4.out⟩
  go_upto_region 3 with fail
  clear c0 c1 c2 c3 c4 c5 c6 c7 c8 d0 d1 d2 d3 d4 d5 d6 d7 d8
  have HK := Lk.mk (And.intro HV2.out (And.intro HV3.out (And.intro HWv.out HWw.out)))
  clear HV2 HV3 HWv HWw
  refine Vj.r3 COa COb HR0 HR1 ?_
  clear COa COb HR0 HR1
  intro ga gb Aa Ab capa capb v26 v27 v28 v29 wc HT
  have HX := Lk.mk (Bx.of_heap HT.out.xa)
  obtain ⟨x0, x1, x2, x3, x4, x5, x6, x7, x8⟩ := HX.out
  go_upto_region 5 with fail
  have HKz := Lk.mk (Kz.start HT.out ⟨HLa.out, by omega⟩)
  clear x0 x1 x2 x3 x4 x5 x6 x7 x8 HX
  have HGz := Lk.mk (rfl : wc.heap.size = wc.heap.size)
  generalize wc.alloc _ = U at *
  generalize wc.heap.size = gz at *
  clear HGz HT
  have hp9 := pk_lt a4 9 (by omega)
  go_upto_block 0 with (first | (go_at_call 10; refine (CP _).mono ?_; rintro e w' ⟨rfl, rfl⟩))
  clear CP
  generalize pk a4 9 = tn at *
  have HKK := Lk.mk HK.out
  clear HK
  go_cut [31] (fun _ U' => ∃ (kz ndz az nz oz nez : Int) (Az : Option Addr) (mz cz : Nat) (kyz boz : Int) (wsz : List Nat), Lk (Kz W U' ga gb gz ka nda aa Na xa ya Aa ma capa kya boa wsa kb ndb ab Nb xb yb Ab mb capb kyb bob wsb kz ndz az nz oz nez Az mz cz kyz boz wsz))
  case first =>
    have z := HKz.out.bx
    obtain ⟨z0, z1, z2, z3, z4, z5, z6, z7, z8⟩ := z
    have f0 := HKz.out.f 0
    have f1 := HKz.out.f 1
    have f2 := HKz.out.f 2
    have f3 := HKz.out.f 3
    have f4 := HKz.out.f 4
    have f5 := HKz.out.f 5
    have f6 := HKz.out.f 6
    have f7 := HKz.out.f 7
    have f8 := HKz.out.f 8
    clear HLa HLb HKK
    by_cases h0 : tn = 0
    · subst h0
      go_wp2
      go_meet
      exact ⟨_, _, _, _, _, _, _, _, _, _, _, _, ⟨HKz.out.set3 _⟩⟩
    by_cases h1 : tn = 1
    · subst h1
      go_wp2
      go_meet
      exact ⟨_, _, _, _, _, _, _, _, _, _, _, _, ⟨HKz.out.set4 _⟩⟩
    by_cases h2 : tn = 2
    · subst h2
      go_wp2
      go_meet
      exact ⟨_, _, _, _, _, _, _, _, _, _, _, _, ⟨HKz.out.set5 _⟩⟩
    by_cases h4 : tn = 4
    · subst h4
      go_wp2
      go_meet
      exact ⟨_, _, _, _, _, _, _, _, _, _, _, _, ⟨HKz.out.set7 _⟩⟩
    by_cases h5 : tn = 5
    · subst h5
      go_wp2
      go_meet
      exact ⟨_, _, _, _, _, _, _, _, _, _, _, _, ⟨HKz.out.set8 _⟩⟩
    by_cases h6 : tn = 6
    · subst h6
      go_wp2
      go_meet
      exact ⟨_, _, _, _, _, _, _, _, _, _, _, _, ⟨HKz.out.set1 _⟩⟩
    by_cases h7 : tn = 7
    · subst h7
      go_wp2
      go_meet
      exact ⟨_, _, _, _, _, _, _, _, _, _, _, _, ⟨HKz.out.set2 _⟩⟩
    by_cases h3 : tn = 3
    · subst h3
      obtain ⟨i0, hi, hz0, hz1, hz2⟩ := info_parts u64info
      have HL := HKz.out.n
      have HLm := Lk.mk (show ma < 23 by omega)
      have hmb : ma ≤ 4294967296 := HL.2
      have HL2 := Lk.mk HL.1
      clear HL
      have hlu : gz < U.heap.size := HKz.out.k.ord.2.2.2
      rcases Aa with _ | ad
      · obtain rfl : wsa = [] := by
          match wsa, HKz.out.l with
          | [], _ => rfl
          | x :: l, h =>
            obtain ⟨ad, e, _⟩ := h (by simp)
            cases e
        obtain rfl : ma = 0 := HL2.out.symm
        go_wp2_with (first
          | (at_builtin; refine wpList_append_nn _ rfl _ _ 23 rfl 22 i0 Try.underlying23 hi rfl _ rfl ?_)
          | (at_builtin; refine wpList_append_own _ rfl _ _ 23 rfl U.heap.size 22 i0 (.int .u64 0) 1 8 Try.underlying23 hi hz0 hz1 hz2 rfl (by decide) _ _ _ rfl (World.ownsRow_nil _ _ _ _) ⟨U.heap.size, 0, none⟩ 1 1 [.int .u64 1] rfl rfl ?c1 ?c2 ?c3 ?c4 ?c5 ?_))
        case c1 =>
          intro j u hj
          match j, hj with
          | 0, hj => simp at hj; subst hj; simp [Addr.add]
        case c2 => intro u hu; simp at hu; subst hu; rfl
        case c3 => unfold maxLen; omega
        case c4 => omega
        case c5 => simp
        intro v2 w2 hown2 hgrow2 _
        have HB2 := Lk.mk (((Below.refl _ U).alloc (Nat.le_refl _) (.cells #[Value.int .u64 1] 22)).grown hgrow2 (by simp) (fun k hk => by cases hk))
        have HW := Kz.words (ws' := [1]) HKz.out HB2.out rfl (by decide) hown2
        clear hown2 hgrow2 HB2
        obtain ⟨A2, c2, rfl, HK2, e1, e2⟩ := HW
        have HK3 := Lk.mk HK2
        clear HK2
        go_wp2
        go_meet
        exact ⟨_, _, _, _, _, _, _, _, _, _, _, _, HK3⟩
      · go_wp2_with (first
          | (at_builtin; refine wpList_append_own _ rfl _ _ 23 rfl U.heap.size 22 i0 (.int .u64 0) 1 8 Try.underlying23 hi hz0 hz1 hz2 rfl (by decide) _ _ _ rfl (World.ownsRow_nil _ _ _ _) ad ma capa (wsa.map u64v) rfl ?c0 (lies_news HKz.out.l) (map_one wsa) ?c3 ?c4 ?c5 ?_))
        case c0 => simp [HL2.out]
        case c3 => unfold maxLen; omega
        case c4 => omega
        case c5 => exact Nat.le_refl _
        intro v1 w1 hown1 hgrow1 _
        have HO1 := Lk.mk hown1
        have HB1 := Lk.mk ((Below.refl U.heap.size U).grown hgrow1 (Nat.le_refl _) (fun k hk => by cases hk))
        clear hown1 hgrow1
        go_wp2_with (first
          | (at_builtin; refine wpList_append_own _ rfl _ _ 23 rfl U.heap.size 22 i0 (.int .u64 0) 1 8 Try.underlying23 hi hz0 hz1 hz2 rfl (by decide) _ _ _ rfl (HO1.out.alloc _) ⟨w1.heap.size, 0, none⟩ 1 1 [.int .u64 1] rfl rfl ?d1 ?d2 ?d3 ?d4 ?d5 ?_))
        case d1 =>
          intro j u hj
          match j, hj with
          | 0, hj => simp at hj; subst hj; simp [Addr.add]
        case d2 => intro u hu; simp at hu; subst hu; rfl
        case d3 => unfold maxLen; omega
        case d4 => omega
        case d5 => have := HB1.out.size; simp; omega
        intro v2 w2 hown2 hgrow2 _
        have HB2 := Lk.mk ((HB1.out.alloc HB1.out.size (.cells #[Value.int .u64 1] 22)).grown hgrow2 (by have := HB1.out.size; simp; omega) (fun k hk => (HO1.out.lt k hk).1))
        have HW := Kz.words (n := ma + 1) (ws' := wsa ++ [1]) HKz.out HB2.out (by simp [HL2.out]) (by have := HKz.out.n.2; have := HLm.out; omega) (by rw [List.map_append]; exact hown2)
        clear hown2 hgrow2 HB2
        obtain ⟨A2, c2, rfl, HK2, e1, e2⟩ := HW
        have HK3 := Lk.mk HK2
        clear HK2
        go_wp2
        go_meet
        exact ⟨_, _, _, _, _, _, _, _, _, _, _, _, HK3⟩
    · go_wp2
      go_meet
      exact ⟨_, _, _, _, _, _, _, _, _, _, _, _, ⟨HKz.out⟩⟩
  case rest =>
    clear HKz
    obtain ⟨kz, ndz, az, nz, oz, nez, Az, mz, cz, kyz, boz, wsz, HKz⟩ := hcut
    have HBV := Lk.mk (HKK.out.1.on HKz.out.k.below)
    have HBW := Lk.mk (HKK.out.2.1.on HKz.out.k.below)
    have HLV := Lk.mk (HKK.out.2.2.1.on_ HKz.out.k.below)
    have HLW := Lk.mk (HKK.out.2.2.2.on_ HKz.out.k.below)
    have HBF := Lk.mk (HB4.out.trans (HKz.out.k.below.mono HB4.out.size))
    have HHx := Lk.mk HKz.out.k.xa
    have HHz := Lk.mk HKz.out.bx
    have hla2 : len2 ≤ 200 := by omega
    have hlb2 : len3 ≤ 200 := by omega
    have hna := hla.1
    have hnb := hlb.1
    have HHa := Lk.mk (And.intro HLa.out (show ma ≤ 4294967296 by omega))
    have HHb := Lk.mk (And.intro HLb.out (show mb ≤ 4294967296 by omega))
    have HHv := Lk.mk (And.intro hna (show len2 ≤ 4294967296 by omega))
    have HHw := Lk.mk (And.intro hnb (show len3 ≤ 4294967296 by omega))
    clear hla hlb hna hnb hla2 hlb2 HKK HB4 HLa HLb hMa hMb hp9
    go_upto_region 22 with fail
    go_cut [14, 15] (fun s14 s15 W' => ∃ gl gm : Nat, s14 = .slice (some ⟨gl, 0, none⟩) 3 3 ∧ s15 = .slice (some ⟨gm, 0, none⟩) 3 3 ∧ Lk (VRow W' (some ⟨gl, 0, none⟩) ([⟨⟨ka, nda, aa, Na, (xa : Int), (ya : Int), kya, boa, wsa⟩, Aa, ma, capa⟩, ⟨⟨q20, q21, q22, q23, q24, q25, q27, q28, (nats len2 z2)⟩, a2, len2, cap2⟩, ⟨⟨kz, ndz, az, nz, oz, nez, kyz, boz, wsz⟩, Az, mz, cz⟩] : List Vp)) ∧ Lk (VRow W' (some ⟨gm, 0, none⟩) ([⟨⟨kz, ndz, az, nz, oz, nez, kyz, boz, wsz⟩, Az, mz, cz⟩, ⟨⟨q30, q31, q32, q33, q34, q35, q37, q38, (nats len3 z3)⟩, a3, len3, cap3⟩, ⟨⟨ka, nda, aa, Na, (xa : Int), (ya : Int), kya, boa, wsa⟩, Aa, ma, capa⟩] : List Vp)) ∧ Lk (Below wc.heap.size wc W'))
    case first =>
      have HH := Lk.mk (four_boxes HHx.out HHz.out HBV.out HBW.out ((Below.refl _ _).drew))
      go_region_held3 (fun W' => (World.cell? W' ⟨ga, 0, none⟩ = some (Value.int IntKind.i64 ka) ∧ World.cell? W' ⟨ga, 1, none⟩ = some (Value.int IntKind.i64 nda) ∧ World.cell? W' ⟨ga, 2, none⟩ = some (Value.int IntKind.i64 aa) ∧ World.cell? W' ⟨ga, 3, none⟩ = some (Value.int IntKind.i64 Na) ∧ World.cell? W' ⟨ga, 4, none⟩ = some (Value.int IntKind.u64 (xa : Int)) ∧ World.cell? W' ⟨ga, 5, none⟩ = some (Value.int IntKind.u64 (ya : Int)) ∧ World.cell? W' ⟨ga, 6, none⟩ = some (Value.slice Aa ma capa) ∧ World.cell? W' ⟨ga, 7, none⟩ = some (Value.int IntKind.u64 kya) ∧ World.cell? W' ⟨ga, 8, none⟩ = some (Value.int IntKind.i64 boa)) ∧ (World.cell? W' ⟨gz, 0, none⟩ = some (Value.int IntKind.i64 kz) ∧ World.cell? W' ⟨gz, 1, none⟩ = some (Value.int IntKind.i64 ndz) ∧ World.cell? W' ⟨gz, 2, none⟩ = some (Value.int IntKind.i64 az) ∧ World.cell? W' ⟨gz, 3, none⟩ = some (Value.int IntKind.i64 nz) ∧ World.cell? W' ⟨gz, 4, none⟩ = some (Value.int IntKind.u64 oz) ∧ World.cell? W' ⟨gz, 5, none⟩ = some (Value.int IntKind.u64 nez) ∧ World.cell? W' ⟨gz, 6, none⟩ = some (Value.slice Az mz cz) ∧ World.cell? W' ⟨gz, 7, none⟩ = some (Value.int IntKind.u64 kyz) ∧ World.cell? W' ⟨gz, 8, none⟩ = some (Value.int IntKind.i64 boz)) ∧ (World.cell? W' ⟨w.heap.size + 2, 0, none⟩ = some (Value.int IntKind.i64 q20) ∧ World.cell? W' ⟨w.heap.size + 2, 1, none⟩ = some (Value.int IntKind.i64 q21) ∧ World.cell? W' ⟨w.heap.size + 2, 2, none⟩ = some (Value.int IntKind.i64 q22) ∧ World.cell? W' ⟨w.heap.size + 2, 3, none⟩ = some (Value.int IntKind.i64 q23) ∧ World.cell? W' ⟨w.heap.size + 2, 4, none⟩ = some (Value.int IntKind.u64 q24) ∧ World.cell? W' ⟨w.heap.size + 2, 5, none⟩ = some (Value.int IntKind.u64 q25) ∧ World.cell? W' ⟨w.heap.size + 2, 6, none⟩ = some (Value.slice a2 len2 cap2) ∧ World.cell? W' ⟨w.heap.size + 2, 7, none⟩ = some (Value.int IntKind.u64 q27) ∧ World.cell? W' ⟨w.heap.size + 2, 8, none⟩ = some (Value.int IntKind.i64 q28)) ∧ (World.cell? W' ⟨w.heap.size + 3, 0, none⟩ = some (Value.int IntKind.i64 q30) ∧ World.cell? W' ⟨w.heap.size + 3, 1, none⟩ = some (Value.int IntKind.i64 q31) ∧ World.cell? W' ⟨w.heap.size + 3, 2, none⟩ = some (Value.int IntKind.i64 q32) ∧ World.cell? W' ⟨w.heap.size + 3, 3, none⟩ = some (Value.int IntKind.i64 q33) ∧ World.cell? W' ⟨w.heap.size + 3, 4, none⟩ = some (Value.int IntKind.u64 q34) ∧ World.cell? W' ⟨w.heap.size + 3, 5, none⟩ = some (Value.int IntKind.u64 q35) ∧ World.cell? W' ⟨w.heap.size + 3, 6, none⟩ = some (Value.slice a3 len3 cap3) ∧ World.cell? W' ⟨w.heap.size + 3, 7, none⟩ = some (Value.int IntKind.u64 q37) ∧ World.cell? W' ⟨w.heap.size + 3, 8, none⟩ = some (Value.int IntKind.i64 q38))) (first | with_reducible exact HH.out | with_reducible assumption | exact four_boxes HHx.out HHz.out HBV.out HBW.out ((((Below.refl _ _).alloc (Nat.le_refl _) _)).drew) | exact four_boxes HHx.out HHz.out HBV.out HBW.out ((((Below.refl _ _).alloc (Nat.le_refl _) _).alloc (by simp) _).drew)) (fail)
      all_goals have HBL := Lk.mk (((((Below.refl wc.heap.size wc).alloc (Nat.le_refl _) (.cells #[Value.int IntKind.i64 ka, Value.int IntKind.i64 nda, Value.int IntKind.i64 aa, Value.int IntKind.i64 Na, Value.int IntKind.u64 (xa : Int), Value.int IntKind.u64 (ya : Int), Value.slice Aa ma capa, Value.int IntKind.u64 kya, Value.int IntKind.i64 boa, Value.int IntKind.i64 q20, Value.int IntKind.i64 q21, Value.int IntKind.i64 q22, Value.int IntKind.i64 q23, Value.int IntKind.u64 q24, Value.int IntKind.u64 q25, Value.slice a2 len2 cap2, Value.int IntKind.u64 q27, Value.int IntKind.i64 q28, Value.int IntKind.i64 kz, Value.int IntKind.i64 ndz, Value.int IntKind.i64 az, Value.int IntKind.i64 nz, Value.int IntKind.u64 oz, Value.int IntKind.u64 nez, Value.slice Az mz cz, Value.int IntKind.u64 kyz, Value.int IntKind.i64 boz] 25)).alloc (by simp) (.cells #[Value.int IntKind.i64 kz, Value.int IntKind.i64 ndz, Value.int IntKind.i64 az, Value.int IntKind.i64 nz, Value.int IntKind.u64 oz, Value.int IntKind.u64 nez, Value.slice Az mz cz, Value.int IntKind.u64 kyz, Value.int IntKind.i64 boz, Value.int IntKind.i64 q30, Value.int IntKind.i64 q31, Value.int IntKind.i64 q32, Value.int IntKind.i64 q33, Value.int IntKind.u64 q34, Value.int IntKind.u64 q35, Value.slice a3 len3 cap3, Value.int IntKind.u64 q37, Value.int IntKind.i64 q38, Value.int IntKind.i64 ka, Value.int IntKind.i64 nda, Value.int IntKind.i64 aa, Value.int IntKind.i64 Na, Value.int IntKind.u64 (xa : Int), Value.int IntKind.u64 (ya : Int), Value.slice Aa ma capa, Value.int IntKind.u64 kya, Value.int IntKind.i64 boa] 25)).drew))
      all_goals have HBM := Lk.mk (((((Below.refl wc.heap.size wc).alloc (Nat.le_refl _) (.cells #[Value.int IntKind.i64 kz, Value.int IntKind.i64 ndz, Value.int IntKind.i64 az, Value.int IntKind.i64 nz, Value.int IntKind.u64 oz, Value.int IntKind.u64 nez, Value.slice Az mz cz, Value.int IntKind.u64 kyz, Value.int IntKind.i64 boz, Value.int IntKind.i64 q30, Value.int IntKind.i64 q31, Value.int IntKind.i64 q32, Value.int IntKind.i64 q33, Value.int IntKind.u64 q34, Value.int IntKind.u64 q35, Value.slice a3 len3 cap3, Value.int IntKind.u64 q37, Value.int IntKind.i64 q38, Value.int IntKind.i64 ka, Value.int IntKind.i64 nda, Value.int IntKind.i64 aa, Value.int IntKind.i64 Na, Value.int IntKind.u64 (xa : Int), Value.int IntKind.u64 (ya : Int), Value.slice Aa ma capa, Value.int IntKind.u64 kya, Value.int IntKind.i64 boa] 25)).alloc (by simp) (.cells #[Value.int IntKind.i64 ka, Value.int IntKind.i64 nda, Value.int IntKind.i64 aa, Value.int IntKind.i64 Na, Value.int IntKind.u64 (xa : Int), Value.int IntKind.u64 (ya : Int), Value.slice Aa ma capa, Value.int IntKind.u64 kya, Value.int IntKind.i64 boa, Value.int IntKind.i64 q20, Value.int IntKind.i64 q21, Value.int IntKind.i64 q22, Value.int IntKind.i64 q23, Value.int IntKind.u64 q24, Value.int IntKind.u64 q25, Value.slice a2 len2 cap2, Value.int IntKind.u64 q27, Value.int IntKind.i64 q28, Value.int IntKind.i64 kz, Value.int IntKind.i64 ndz, Value.int IntKind.i64 az, Value.int IntKind.i64 nz, Value.int IntKind.u64 oz, Value.int IntKind.u64 nez, Value.slice Az mz cz, Value.int IntKind.u64 kyz, Value.int IntKind.i64 boz] 25)).drew))
      all_goals go_wp2_with fail
      all_goals go_meet
      next =>
        have e1 := (Below.heap_alloc (wc.alloc (.cells #[Value.int IntKind.i64 ka, Value.int IntKind.i64 nda, Value.int IntKind.i64 aa, Value.int IntKind.i64 Na, Value.int IntKind.u64 (xa : Int), Value.int IntKind.u64 (ya : Int), Value.slice Aa ma capa, Value.int IntKind.u64 kya, Value.int IntKind.i64 boa, Value.int IntKind.i64 q20, Value.int IntKind.i64 q21, Value.int IntKind.i64 q22, Value.int IntKind.i64 q23, Value.int IntKind.u64 q24, Value.int IntKind.u64 q25, Value.slice a2 len2 cap2, Value.int IntKind.u64 q27, Value.int IntKind.i64 q28, Value.int IntKind.i64 kz, Value.int IntKind.i64 ndz, Value.int IntKind.i64 az, Value.int IntKind.i64 nz, Value.int IntKind.u64 oz, Value.int IntKind.u64 nez, Value.slice Az mz cz, Value.int IntKind.u64 kyz, Value.int IntKind.i64 boz] 25)) (.cells #[Value.int IntKind.i64 kz, Value.int IntKind.i64 ndz, Value.int IntKind.i64 az, Value.int IntKind.i64 nz, Value.int IntKind.u64 oz, Value.int IntKind.u64 nez, Value.slice Az mz cz, Value.int IntKind.u64 kyz, Value.int IntKind.i64 boz, Value.int IntKind.i64 q30, Value.int IntKind.i64 q31, Value.int IntKind.i64 q32, Value.int IntKind.i64 q33, Value.int IntKind.u64 q34, Value.int IntKind.u64 q35, Value.slice a3 len3 cap3, Value.int IntKind.u64 q37, Value.int IntKind.i64 q38, Value.int IntKind.i64 ka, Value.int IntKind.i64 nda, Value.int IntKind.i64 aa, Value.int IntKind.i64 Na, Value.int IntKind.u64 (xa : Int), Value.int IntKind.u64 (ya : Int), Value.slice Aa ma capa, Value.int IntKind.u64 kya, Value.int IntKind.i64 boa] 25) wc.heap.size (by simp)).trans (heap_alloc_new wc (.cells #[Value.int IntKind.i64 ka, Value.int IntKind.i64 nda, Value.int IntKind.i64 aa, Value.int IntKind.i64 Na, Value.int IntKind.u64 (xa : Int), Value.int IntKind.u64 (ya : Int), Value.slice Aa ma capa, Value.int IntKind.u64 kya, Value.int IntKind.i64 boa, Value.int IntKind.i64 q20, Value.int IntKind.i64 q21, Value.int IntKind.i64 q22, Value.int IntKind.i64 q23, Value.int IntKind.u64 q24, Value.int IntKind.u64 q25, Value.slice a2 len2 cap2, Value.int IntKind.u64 q27, Value.int IntKind.i64 q28, Value.int IntKind.i64 kz, Value.int IntKind.i64 ndz, Value.int IntKind.i64 az, Value.int IntKind.i64 nz, Value.int IntKind.u64 oz, Value.int IntKind.u64 nez, Value.slice Az mz cz, Value.int IntKind.u64 kyz, Value.int IntKind.i64 boz] 25))
        have e2 := heap_alloc_new (wc.alloc (.cells #[Value.int IntKind.i64 ka, Value.int IntKind.i64 nda, Value.int IntKind.i64 aa, Value.int IntKind.i64 Na, Value.int IntKind.u64 (xa : Int), Value.int IntKind.u64 (ya : Int), Value.slice Aa ma capa, Value.int IntKind.u64 kya, Value.int IntKind.i64 boa, Value.int IntKind.i64 q20, Value.int IntKind.i64 q21, Value.int IntKind.i64 q22, Value.int IntKind.i64 q23, Value.int IntKind.u64 q24, Value.int IntKind.u64 q25, Value.slice a2 len2 cap2, Value.int IntKind.u64 q27, Value.int IntKind.i64 q28, Value.int IntKind.i64 kz, Value.int IntKind.i64 ndz, Value.int IntKind.i64 az, Value.int IntKind.i64 nz, Value.int IntKind.u64 oz, Value.int IntKind.u64 nez, Value.slice Az mz cz, Value.int IntKind.u64 kyz, Value.int IntKind.i64 boz] 25)) (.cells #[Value.int IntKind.i64 kz, Value.int IntKind.i64 ndz, Value.int IntKind.i64 az, Value.int IntKind.i64 nz, Value.int IntKind.u64 oz, Value.int IntKind.u64 nez, Value.slice Az mz cz, Value.int IntKind.u64 kyz, Value.int IntKind.i64 boz, Value.int IntKind.i64 q30, Value.int IntKind.i64 q31, Value.int IntKind.i64 q32, Value.int IntKind.i64 q33, Value.int IntKind.u64 q34, Value.int IntKind.u64 q35, Value.slice a3 len3 cap3, Value.int IntKind.u64 q37, Value.int IntKind.i64 q38, Value.int IntKind.i64 ka, Value.int IntKind.i64 nda, Value.int IntKind.i64 aa, Value.int IntKind.i64 Na, Value.int IntKind.u64 (xa : Int), Value.int IntKind.u64 (ya : Int), Value.slice Aa ma capa, Value.int IntKind.u64 kya, Value.int IntKind.i64 boa] 25)
        rw [World.size_alloc] at e2
        exact ⟨_, _, rfl, rfl, ⟨row3 e1 ⟨HHa.out.1, HHa.out.2, (HKz.out.k.la.more (Nat.le_of_lt HKz.out.k.ord.2.2.2)).on_ HBL.out⟩ ⟨HHv.out.1, HHv.out.2, HLV.out.on_ HBL.out⟩ ⟨HKz.out.n.1, HKz.out.n.2, HKz.out.l.on_ HBL.out⟩⟩, ⟨row3 e2 ⟨HKz.out.n.1, HKz.out.n.2, HKz.out.l.on_ HBL.out⟩ ⟨HHw.out.1, HHw.out.2, HLW.out.on_ HBL.out⟩ ⟨HHa.out.1, HHa.out.2, (HKz.out.k.la.more (Nat.le_of_lt HKz.out.k.ord.2.2.2)).on_ HBL.out⟩⟩, HBL⟩
      next =>
        have e1 := (Below.heap_alloc (wc.alloc (.cells #[Value.int IntKind.i64 kz, Value.int IntKind.i64 ndz, Value.int IntKind.i64 az, Value.int IntKind.i64 nz, Value.int IntKind.u64 oz, Value.int IntKind.u64 nez, Value.slice Az mz cz, Value.int IntKind.u64 kyz, Value.int IntKind.i64 boz, Value.int IntKind.i64 q30, Value.int IntKind.i64 q31, Value.int IntKind.i64 q32, Value.int IntKind.i64 q33, Value.int IntKind.u64 q34, Value.int IntKind.u64 q35, Value.slice a3 len3 cap3, Value.int IntKind.u64 q37, Value.int IntKind.i64 q38, Value.int IntKind.i64 ka, Value.int IntKind.i64 nda, Value.int IntKind.i64 aa, Value.int IntKind.i64 Na, Value.int IntKind.u64 (xa : Int), Value.int IntKind.u64 (ya : Int), Value.slice Aa ma capa, Value.int IntKind.u64 kya, Value.int IntKind.i64 boa] 25)) (.cells #[Value.int IntKind.i64 ka, Value.int IntKind.i64 nda, Value.int IntKind.i64 aa, Value.int IntKind.i64 Na, Value.int IntKind.u64 (xa : Int), Value.int IntKind.u64 (ya : Int), Value.slice Aa ma capa, Value.int IntKind.u64 kya, Value.int IntKind.i64 boa, Value.int IntKind.i64 q20, Value.int IntKind.i64 q21, Value.int IntKind.i64 q22, Value.int IntKind.i64 q23, Value.int IntKind.u64 q24, Value.int IntKind.u64 q25, Value.slice a2 len2 cap2, Value.int IntKind.u64 q27, Value.int IntKind.i64 q28, Value.int IntKind.i64 kz, Value.int IntKind.i64 ndz, Value.int IntKind.i64 az, Value.int IntKind.i64 nz, Value.int IntKind.u64 oz, Value.int IntKind.u64 nez, Value.slice Az mz cz, Value.int IntKind.u64 kyz, Value.int IntKind.i64 boz] 25) wc.heap.size (by simp)).trans (heap_alloc_new wc (.cells #[Value.int IntKind.i64 kz, Value.int IntKind.i64 ndz, Value.int IntKind.i64 az, Value.int IntKind.i64 nz, Value.int IntKind.u64 oz, Value.int IntKind.u64 nez, Value.slice Az mz cz, Value.int IntKind.u64 kyz, Value.int IntKind.i64 boz, Value.int IntKind.i64 q30, Value.int IntKind.i64 q31, Value.int IntKind.i64 q32, Value.int IntKind.i64 q33, Value.int IntKind.u64 q34, Value.int IntKind.u64 q35, Value.slice a3 len3 cap3, Value.int IntKind.u64 q37, Value.int IntKind.i64 q38, Value.int IntKind.i64 ka, Value.int IntKind.i64 nda, Value.int IntKind.i64 aa, Value.int IntKind.i64 Na, Value.int IntKind.u64 (xa : Int), Value.int IntKind.u64 (ya : Int), Value.slice Aa ma capa, Value.int IntKind.u64 kya, Value.int IntKind.i64 boa] 25))
        have e2 := heap_alloc_new (wc.alloc (.cells #[Value.int IntKind.i64 kz, Value.int IntKind.i64 ndz, Value.int IntKind.i64 az, Value.int IntKind.i64 nz, Value.int IntKind.u64 oz, Value.int IntKind.u64 nez, Value.slice Az mz cz, Value.int IntKind.u64 kyz, Value.int IntKind.i64 boz, Value.int IntKind.i64 q30, Value.int IntKind.i64 q31, Value.int IntKind.i64 q32, Value.int IntKind.i64 q33, Value.int IntKind.u64 q34, Value.int IntKind.u64 q35, Value.slice a3 len3 cap3, Value.int IntKind.u64 q37, Value.int IntKind.i64 q38, Value.int IntKind.i64 ka, Value.int IntKind.i64 nda, Value.int IntKind.i64 aa, Value.int IntKind.i64 Na, Value.int IntKind.u64 (xa : Int), Value.int IntKind.u64 (ya : Int), Value.slice Aa ma capa, Value.int IntKind.u64 kya, Value.int IntKind.i64 boa] 25)) (.cells #[Value.int IntKind.i64 ka, Value.int IntKind.i64 nda, Value.int IntKind.i64 aa, Value.int IntKind.i64 Na, Value.int IntKind.u64 (xa : Int), Value.int IntKind.u64 (ya : Int), Value.slice Aa ma capa, Value.int IntKind.u64 kya, Value.int IntKind.i64 boa, Value.int IntKind.i64 q20, Value.int IntKind.i64 q21, Value.int IntKind.i64 q22, Value.int IntKind.i64 q23, Value.int IntKind.u64 q24, Value.int IntKind.u64 q25, Value.slice a2 len2 cap2, Value.int IntKind.u64 q27, Value.int IntKind.i64 q28, Value.int IntKind.i64 kz, Value.int IntKind.i64 ndz, Value.int IntKind.i64 az, Value.int IntKind.i64 nz, Value.int IntKind.u64 oz, Value.int IntKind.u64 nez, Value.slice Az mz cz, Value.int IntKind.u64 kyz, Value.int IntKind.i64 boz] 25)
        rw [World.size_alloc] at e2
        exact ⟨_, _, rfl, rfl, ⟨row3 e2 ⟨HHa.out.1, HHa.out.2, (HKz.out.k.la.more (Nat.le_of_lt HKz.out.k.ord.2.2.2)).on_ HBM.out⟩ ⟨HHv.out.1, HHv.out.2, HLV.out.on_ HBM.out⟩ ⟨HKz.out.n.1, HKz.out.n.2, HKz.out.l.on_ HBM.out⟩⟩, ⟨row3 e1 ⟨HKz.out.n.1, HKz.out.n.2, HKz.out.l.on_ HBM.out⟩ ⟨HHw.out.1, HHw.out.2, HLW.out.on_ HBM.out⟩ ⟨HHa.out.1, HHa.out.2, (HKz.out.k.la.more (Nat.le_of_lt HKz.out.k.ord.2.2.2)).on_ HBM.out⟩⟩, HBM⟩
    case rest =>
      obtain ⟨gl, gm, rfl, rfl, HRl, HRm, HBd⟩ := hcut
      have HNX := Lk.mk (show VWords wc (⟨⟨ka, nda, aa, Na, (xa : Int), (ya : Int), kya, boa, wsa⟩, Aa, ma, capa⟩ : Vp) from ⟨HHa.out.1, HHa.out.2, ((HKz.out.k.la.more (Nat.le_of_lt HKz.out.k.ord.2.2.2)).on_ HBd.out)⟩)
      have HNY := Lk.mk (show VWords wc (⟨⟨kb, ndb, ab, Nb, (xb : Int), (yb : Int), kyb, bob, wsb⟩, Ab, mb, capb⟩ : Vp) from ⟨HHb.out.1, HHb.out.2, ((HKz.out.k.lb.more (Nat.le_of_lt HKz.out.k.ord.2.2.2)).on_ HBd.out)⟩)
      have HNZ := Lk.mk (show VWords wc (⟨⟨kz, ndz, az, nz, oz, nez, kyz, boz, wsz⟩, Az, mz, cz⟩ : Vp) from ⟨HKz.out.n.1, HKz.out.n.2, (HKz.out.l.on_ HBd.out)⟩)
      have HNV := Lk.mk (show VWords wc (⟨⟨q20, q21, q22, q23, q24, q25, q27, q28, (nats len2 z2)⟩, a2, len2, cap2⟩ : Vp) from ⟨HHv.out.1, HHv.out.2, (HLV.out.on_ HBd.out)⟩)
      have HNW := Lk.mk (show VWords wc (⟨⟨q30, q31, q32, q33, q34, q35, q37, q38, (nats len3 z3)⟩, a3, len3, cap3⟩ : Vp) from ⟨HHw.out.1, HHw.out.2, (HLW.out.on_ HBd.out)⟩)
      have HH := Lk.mk (five_boxes (HHx.out.on HBd.out) (HKz.out.k.xb.on HBd.out) (HHz.out.on HBd.out) (HBV.out.on HBd.out) (HBW.out.on HBd.out) ((Below.refl _ _).drew))
      have HBE := Lk.mk (HBF.out.trans (HBd.out.mono HBF.out.size))
      have HR2 := Lk.mk (row2 HRl.out)
      have C1 := fun (wb : World) (hb : Lk (Below wc.heap.size wc wb)) => Same_any ka nda aa Na (xa : Int) (ya : Int) Aa ma capa kya boa wsa kb ndb ab Nb (xb : Int) (yb : Int) Ab mb capb kyb bob wsb wb HNX.out.1 HNY.out.1 ⟨HNX.out.2.2.on_ hb.out⟩ ⟨HNY.out.2.2.on_ hb.out⟩ HNX.out.2.1 HNY.out.2.1
      have C1R := fun (wb : World) (hb : Lk (Below wc.heap.size wc wb)) => SameR_any ka nda aa Na (xa : Int) (ya : Int) Aa ma capa kya boa wsa kb ndb ab Nb (xb : Int) (yb : Int) Ab mb capb kyb bob wsb wb HNX.out.1 HNY.out.1 ⟨HNX.out.2.2.on_ hb.out⟩ ⟨HNY.out.2.2.on_ hb.out⟩ HNX.out.2.1 HNY.out.2.1
      generalize sameB (⟨ka, nda, aa, Na, (xa : Int), (ya : Int), kya, boa, wsa⟩ : Vv) (⟨kb, ndb, ab, Nb, (xb : Int), (yb : Int), kyb, bob, wsb⟩ : Vv) = R1 at C1 C1R
      have C2 := fun (wb : World) (hb : Lk (Below wc.heap.size wc wb)) => Same_any ka nda aa Na (xa : Int) (ya : Int) Aa ma capa kya boa wsa kz ndz az nz oz nez Az mz cz kyz boz wsz wb HNX.out.1 HNZ.out.1 ⟨HNX.out.2.2.on_ hb.out⟩ ⟨HNZ.out.2.2.on_ hb.out⟩ HNX.out.2.1 HNZ.out.2.1
      have C2R := fun (wb : World) (hb : Lk (Below wc.heap.size wc wb)) => SameR_any ka nda aa Na (xa : Int) (ya : Int) Aa ma capa kya boa wsa kz ndz az nz oz nez Az mz cz kyz boz wsz wb HNX.out.1 HNZ.out.1 ⟨HNX.out.2.2.on_ hb.out⟩ ⟨HNZ.out.2.2.on_ hb.out⟩ HNX.out.2.1 HNZ.out.2.1
      generalize sameB (⟨ka, nda, aa, Na, (xa : Int), (ya : Int), kya, boa, wsa⟩ : Vv) (⟨kz, ndz, az, nz, oz, nez, kyz, boz, wsz⟩ : Vv) = R2 at C2 C2R
      have C3 := fun (wb : World) (hb : Lk (Below wc.heap.size wc wb)) => Same_any q20 q21 q22 q23 q24 q25 a2 len2 cap2 q27 q28 (nats len2 z2) q30 q31 q32 q33 q34 q35 a3 len3 cap3 q37 q38 (nats len3 z3) wb HNV.out.1 HNW.out.1 ⟨HNV.out.2.2.on_ hb.out⟩ ⟨HNW.out.2.2.on_ hb.out⟩ HNV.out.2.1 HNW.out.2.1
      have C3R := fun (wb : World) (hb : Lk (Below wc.heap.size wc wb)) => SameR_any q20 q21 q22 q23 q24 q25 a2 len2 cap2 q27 q28 (nats len2 z2) q30 q31 q32 q33 q34 q35 a3 len3 cap3 q37 q38 (nats len3 z3) wb HNV.out.1 HNW.out.1 ⟨HNV.out.2.2.on_ hb.out⟩ ⟨HNW.out.2.2.on_ hb.out⟩ HNV.out.2.1 HNW.out.2.1
      generalize sameB (⟨q20, q21, q22, q23, q24, q25, q27, q28, (nats len2 z2)⟩ : Vv) (⟨q30, q31, q32, q33, q34, q35, q37, q38, (nats len3 z3)⟩ : Vv) = R3 at C3 C3R
      have C4 := fun (wb : World) (hb : Lk (Below wc.heap.size wc wb)) => Same_any q20 q21 q22 q23 q24 q25 a2 len2 cap2 q27 q28 (nats len2 z2) q20 q21 q22 q23 q24 q25 a2 len2 cap2 q27 q28 (nats len2 z2) wb HNV.out.1 HNV.out.1 ⟨HNV.out.2.2.on_ hb.out⟩ ⟨HNV.out.2.2.on_ hb.out⟩ HNV.out.2.1 HNV.out.2.1
      rw [sameB_self] at C4
      have C5 := fun (wb : World) (hb : Lk (Below wc.heap.size wc wb)) => SameAll_any (some ⟨gl, 0, none⟩) (some ⟨gm, 0, none⟩) 3 3 3 3 ([⟨⟨ka, nda, aa, Na, (xa : Int), (ya : Int), kya, boa, wsa⟩, Aa, ma, capa⟩, ⟨⟨q20, q21, q22, q23, q24, q25, q27, q28, (nats len2 z2)⟩, a2, len2, cap2⟩, ⟨⟨kz, ndz, az, nz, oz, nez, kyz, boz, wsz⟩, Az, mz, cz⟩] : List Vp) ([⟨⟨kz, ndz, az, nz, oz, nez, kyz, boz, wsz⟩, Az, mz, cz⟩, ⟨⟨q30, q31, q32, q33, q34, q35, q37, q38, (nats len3 z3)⟩, a3, len3, cap3⟩, ⟨⟨ka, nda, aa, Na, (xa : Int), (ya : Int), kya, boa, wsa⟩, Aa, ma, capa⟩] : List Vp) wb rfl rfl ⟨HRl.out.on (hb.out)⟩ ⟨HRm.out.on (hb.out)⟩ (by decide) (by decide)
      have C5R := fun (wb : World) (hb : Lk (Below wc.heap.size wc wb)) => SameAllR_any (some ⟨gl, 0, none⟩) (some ⟨gm, 0, none⟩) 3 3 3 3 ([⟨⟨ka, nda, aa, Na, (xa : Int), (ya : Int), kya, boa, wsa⟩, Aa, ma, capa⟩, ⟨⟨q20, q21, q22, q23, q24, q25, q27, q28, (nats len2 z2)⟩, a2, len2, cap2⟩, ⟨⟨kz, ndz, az, nz, oz, nez, kyz, boz, wsz⟩, Az, mz, cz⟩] : List Vp) ([⟨⟨kz, ndz, az, nz, oz, nez, kyz, boz, wsz⟩, Az, mz, cz⟩, ⟨⟨q30, q31, q32, q33, q34, q35, q37, q38, (nats len3 z3)⟩, a3, len3, cap3⟩, ⟨⟨ka, nda, aa, Na, (xa : Int), (ya : Int), kya, boa, wsa⟩, Aa, ma, capa⟩] : List Vp) wb rfl rfl ⟨HRl.out.on (hb.out)⟩ ⟨HRm.out.on (hb.out)⟩ (by decide) (by decide)
      generalize allB [⟨⟨ka, nda, aa, Na, (xa : Int), (ya : Int), kya, boa, wsa⟩, Aa, ma, capa⟩, ⟨⟨q20, q21, q22, q23, q24, q25, q27, q28, (nats len2 z2)⟩, a2, len2, cap2⟩, ⟨⟨kz, ndz, az, nz, oz, nez, kyz, boz, wsz⟩, Az, mz, cz⟩] [⟨⟨kz, ndz, az, nz, oz, nez, kyz, boz, wsz⟩, Az, mz, cz⟩, ⟨⟨q30, q31, q32, q33, q34, q35, q37, q38, (nats len3 z3)⟩, a3, len3, cap3⟩, ⟨⟨ka, nda, aa, Na, (xa : Int), (ya : Int), kya, boa, wsa⟩, Aa, ma, capa⟩] = R5 at C5 C5R
      have C6 := fun (wb : World) (hb : Lk (Below wc.heap.size wc wb)) => SameAll_any (some ⟨gl, 0, none⟩) (some ⟨gl, 0, none⟩) 3 3 3 3 ([⟨⟨ka, nda, aa, Na, (xa : Int), (ya : Int), kya, boa, wsa⟩, Aa, ma, capa⟩, ⟨⟨q20, q21, q22, q23, q24, q25, q27, q28, (nats len2 z2)⟩, a2, len2, cap2⟩, ⟨⟨kz, ndz, az, nz, oz, nez, kyz, boz, wsz⟩, Az, mz, cz⟩] : List Vp) ([⟨⟨ka, nda, aa, Na, (xa : Int), (ya : Int), kya, boa, wsa⟩, Aa, ma, capa⟩, ⟨⟨q20, q21, q22, q23, q24, q25, q27, q28, (nats len2 z2)⟩, a2, len2, cap2⟩, ⟨⟨kz, ndz, az, nz, oz, nez, kyz, boz, wsz⟩, Az, mz, cz⟩] : List Vp) wb rfl rfl ⟨HRl.out.on (hb.out)⟩ ⟨HRl.out.on (hb.out)⟩ (by decide) (by decide)
      rw [allB_self] at C6
      have C7 := fun (wb : World) (hb : Lk (Below wc.heap.size wc wb)) => SameAll_any (some ⟨gl, 0, none⟩) (some ⟨gl, 0, none⟩) 3 3 2 3 ([⟨⟨ka, nda, aa, Na, (xa : Int), (ya : Int), kya, boa, wsa⟩, Aa, ma, capa⟩, ⟨⟨q20, q21, q22, q23, q24, q25, q27, q28, (nats len2 z2)⟩, a2, len2, cap2⟩, ⟨⟨kz, ndz, az, nz, oz, nez, kyz, boz, wsz⟩, Az, mz, cz⟩] : List Vp) ([⟨⟨ka, nda, aa, Na, (xa : Int), (ya : Int), kya, boa, wsa⟩, Aa, ma, capa⟩, ⟨⟨q20, q21, q22, q23, q24, q25, q27, q28, (nats len2 z2)⟩, a2, len2, cap2⟩] : List Vp) wb rfl rfl ⟨HRl.out.on (hb.out)⟩ ⟨HR2.out.on (hb.out)⟩ (by decide) (by decide)
      rw [allB_len (by simp)] at C7
      have C1 := Lk.mk C1
      have C1R := Lk.mk C1R
      have C2 := Lk.mk C2
      have C2R := Lk.mk C2R
      have C3 := Lk.mk C3
      have C3R := Lk.mk C3R
      have C4 := Lk.mk C4
      have C5 := Lk.mk C5
      have C5R := Lk.mk C5R
      have C6 := Lk.mk C6
      have C7 := Lk.mk C7
      clear HNX HNY HNZ HNV HNW HHx HHz HBV HBW HLV HLW HBF HHa HHb HHv HHw HKz HRl HRm HR2 HBd
      go_wp2_with fail
      go_region_held3 (fun W' => (World.cell? W' ⟨ga, 0, none⟩ = some (Value.int IntKind.i64 ka) ∧ World.cell? W' ⟨ga, 1, none⟩ = some (Value.int IntKind.i64 nda) ∧ World.cell? W' ⟨ga, 2, none⟩ = some (Value.int IntKind.i64 aa) ∧ World.cell? W' ⟨ga, 3, none⟩ = some (Value.int IntKind.i64 Na) ∧ World.cell? W' ⟨ga, 4, none⟩ = some (Value.int IntKind.u64 (xa : Int)) ∧ World.cell? W' ⟨ga, 5, none⟩ = some (Value.int IntKind.u64 (ya : Int)) ∧ World.cell? W' ⟨ga, 6, none⟩ = some (Value.slice Aa ma capa) ∧ World.cell? W' ⟨ga, 7, none⟩ = some (Value.int IntKind.u64 kya) ∧ World.cell? W' ⟨ga, 8, none⟩ = some (Value.int IntKind.i64 boa)) ∧ (World.cell? W' ⟨gb, 0, none⟩ = some (Value.int IntKind.i64 kb) ∧ World.cell? W' ⟨gb, 1, none⟩ = some (Value.int IntKind.i64 ndb) ∧ World.cell? W' ⟨gb, 2, none⟩ = some (Value.int IntKind.i64 ab) ∧ World.cell? W' ⟨gb, 3, none⟩ = some (Value.int IntKind.i64 Nb) ∧ World.cell? W' ⟨gb, 4, none⟩ = some (Value.int IntKind.u64 (xb : Int)) ∧ World.cell? W' ⟨gb, 5, none⟩ = some (Value.int IntKind.u64 (yb : Int)) ∧ World.cell? W' ⟨gb, 6, none⟩ = some (Value.slice Ab mb capb) ∧ World.cell? W' ⟨gb, 7, none⟩ = some (Value.int IntKind.u64 kyb) ∧ World.cell? W' ⟨gb, 8, none⟩ = some (Value.int IntKind.i64 bob)) ∧ (World.cell? W' ⟨gz, 0, none⟩ = some (Value.int IntKind.i64 kz) ∧ World.cell? W' ⟨gz, 1, none⟩ = some (Value.int IntKind.i64 ndz) ∧ World.cell? W' ⟨gz, 2, none⟩ = some (Value.int IntKind.i64 az) ∧ World.cell? W' ⟨gz, 3, none⟩ = some (Value.int IntKind.i64 nz) ∧ World.cell? W' ⟨gz, 4, none⟩ = some (Value.int IntKind.u64 oz) ∧ World.cell? W' ⟨gz, 5, none⟩ = some (Value.int IntKind.u64 nez) ∧ World.cell? W' ⟨gz, 6, none⟩ = some (Value.slice Az mz cz) ∧ World.cell? W' ⟨gz, 7, none⟩ = some (Value.int IntKind.u64 kyz) ∧ World.cell? W' ⟨gz, 8, none⟩ = some (Value.int IntKind.i64 boz)) ∧ (World.cell? W' ⟨w.heap.size + 2, 0, none⟩ = some (Value.int IntKind.i64 q20) ∧ World.cell? W' ⟨w.heap.size + 2, 1, none⟩ = some (Value.int IntKind.i64 q21) ∧ World.cell? W' ⟨w.heap.size + 2, 2, none⟩ = some (Value.int IntKind.i64 q22) ∧ World.cell? W' ⟨w.heap.size + 2, 3, none⟩ = some (Value.int IntKind.i64 q23) ∧ World.cell? W' ⟨w.heap.size + 2, 4, none⟩ = some (Value.int IntKind.u64 q24) ∧ World.cell? W' ⟨w.heap.size + 2, 5, none⟩ = some (Value.int IntKind.u64 q25) ∧ World.cell? W' ⟨w.heap.size + 2, 6, none⟩ = some (Value.slice a2 len2 cap2) ∧ World.cell? W' ⟨w.heap.size + 2, 7, none⟩ = some (Value.int IntKind.u64 q27) ∧ World.cell? W' ⟨w.heap.size + 2, 8, none⟩ = some (Value.int IntKind.i64 q28)) ∧ (World.cell? W' ⟨w.heap.size + 3, 0, none⟩ = some (Value.int IntKind.i64 q30) ∧ World.cell? W' ⟨w.heap.size + 3, 1, none⟩ = some (Value.int IntKind.i64 q31) ∧ World.cell? W' ⟨w.heap.size + 3, 2, none⟩ = some (Value.int IntKind.i64 q32) ∧ World.cell? W' ⟨w.heap.size + 3, 3, none⟩ = some (Value.int IntKind.i64 q33) ∧ World.cell? W' ⟨w.heap.size + 3, 4, none⟩ = some (Value.int IntKind.u64 q34) ∧ World.cell? W' ⟨w.heap.size + 3, 5, none⟩ = some (Value.int IntKind.u64 q35) ∧ World.cell? W' ⟨w.heap.size + 3, 6, none⟩ = some (Value.slice a3 len3 cap3) ∧ World.cell? W' ⟨w.heap.size + 3, 7, none⟩ = some (Value.int IntKind.u64 q37) ∧ World.cell? W' ⟨w.heap.size + 3, 8, none⟩ = some (Value.int IntKind.i64 q38)) ∧ Lk (Below wc.heap.size wc W')) (first | with_reducible exact HH.out | with_reducible assumption | with_reducible exact five_on (by assumption) (by assumption))
        (first
        | (go_at_call 11; refine (awake_any _).mono ?_; rintro e wz ⟨rfl, HBz⟩)
        | (go_at_call_of 24 (Value.slice Ab mb capb); refine (C1.out _ ?_).mono ?_; exact five_below (by assumption); rintro e wz ⟨rfl, HBz⟩)
        | (go_at_call_of 25 (Value.slice Ab mb capb); refine (C1R.out _ ?_).mono ?_; exact five_below (by assumption); rintro e wz ⟨rfl, HBz⟩)
        | (go_at_call_of 24 (Value.slice a3 len3 cap3); refine (C3.out _ ?_).mono ?_; exact five_below (by assumption); rintro e wz ⟨rfl, HBz⟩)
        | (go_at_call_of 25 (Value.slice a3 len3 cap3); refine (C3R.out _ ?_).mono ?_; exact five_below (by assumption); rintro e wz ⟨rfl, HBz⟩)
        | (go_at_call_of 24 (Value.slice Az mz cz); refine (C2.out _ ?_).mono ?_; exact five_below (by assumption); rintro e wz ⟨rfl, HBz⟩)
        | (go_at_call_of 25 (Value.slice Az mz cz); refine (C2R.out _ ?_).mono ?_; exact five_below (by assumption); rintro e wz ⟨rfl, HBz⟩)
        | (go_at_call 24; refine (C4.out _ ?_).mono ?_; exact five_below (by assumption); rintro e wz ⟨rfl, HBz⟩)
        | (go_at_call_of 26 (some (Addr.mk gm 0 none)); refine (C5.out _ ?_).mono ?_; exact five_below (by assumption); rintro e wz ⟨rfl, HBz⟩)
        | (go_at_call 27; refine (C5R.out _ ?_).mono ?_; exact five_below (by assumption); rintro e wz ⟨rfl, HBz⟩)
        | (go_at_call_of 26 (Value.slice (some (Addr.mk gl 0 none)) 2 3); refine (C7.out _ ?_).mono ?_; exact five_below (by assumption); rintro e wz ⟨rfl, HBz⟩)
        | (go_at_call 26; refine (C6.out _ ?_).mono ?_; exact five_below (by assumption); rintro e wz ⟨rfl, HBz⟩))
      all_goals have HF := five_below (by assumption)
      all_goals go_wp2
      all_goals go_ret
      all_goals first | exact ⟨rfl, HBE.out.trans (HF.out.mono HBE.out.size)⟩ | exact ⟨ret_bool (by simp), HBE.out.trans (HF.out.mono HBE.out.size)⟩

set_option maxRecDepth 100000 in
theorem lifted (os : Os) (started : os.Started) (H : Type) (enc : TypeId × Value → H) :
    ReturnsInHanded {} Try.checked os 7 .any (Rows.verbSameSpec.pre6 enc Try.prog Try.f7 Rows.verbSameRow.domain false) (Rows.verbSameSpec.post enc Try.prog Try.f7 false true false false) := by
  refine returnsInHanded_of_change (C := Try.checked) own started (by kernel_rfl) Try.func7
    (ChangeSpec.witness6 (enc := enc) (C := Try.checked) false ⟨#[], #[.agg #[.int .i64 0, .int .i64 0, .int .i64 0, .int .i64 0, .int .i64 0, .int .i64 0, .int .u64 0, .int .u64 0], .agg #[.int .i64 0, .int .i64 0, .int .i64 0, .int .i64 0, .int .i64 0, .int .i64 0, .int .u64 0, .int .u64 0], .agg #[.int .i64 0, .int .i64 0, .int .i64 0, .int .i64 0, .int .u64 0, .int .u64 0, .slice none 0 0, .int .u64 0, .int .i64 0], .agg #[.int .i64 0, .int .i64 0, .int .i64 0, .int .i64 0, .int .u64 0, .int .u64 0, .slice none 0 0, .int .u64 0, .int .i64 0], .int .i64 0], []⟩ 8 (by kernel_rfl) (by kernel_rfl) (by kernel_rfl) (by kernel_rfl)) ?_
  intro W base args ds gs before hval0 hW hcnd _
  have hval : ∀ (j : Nat) t v, Try.f7.params[j]? = some t → args[j]? = some v → Value.okWide Try.prog W .any base t v := hval0
  have hW' := hW
  obtain ⟨p, q, hA0, hV, rfl, hfz, hnd⟩ := hW
  have hA : DataW.TrodAll enc Try.prog W 0 (fun _ => true) true Try.f7.params.toList args.toList ds p := hA0
  rw [Try.params7] at hA hval
  obtain ⟨v0, vs0, d0, ds0, p0, q0, hargs, rfl, rfl, h0, r0⟩ := trodAll_cons hA
  obtain ⟨v1, vs1, d1, ds1, p1, q1, rfl, rfl, rfl, h1, r1⟩ := trodAll_cons r0
  obtain ⟨v2, vs2, d2, ds2, p2, q2, rfl, rfl, rfl, h2, r2⟩ := trodAll_cons r1
  obtain ⟨v3, vs3, d3, ds3, p3, q3, rfl, rfl, rfl, h3, r3⟩ := trodAll_cons r2
  obtain ⟨v4, vs4, d4, ds4, p4, q4, rfl, rfl, rfl, h4, r4⟩ := trodAll_cons r3
  obtain ⟨rfl, rfl, rfl⟩ := trodAll_nil r4
  obtain rfl : args = #[v0, v1, v2, v3, v4] := by cases args; simp_all
  obtain ⟨rfl, rfl⟩ := trodVars_none hV
  have k0 := h0
  have lt0 : ∀ x ∈ p0, x.block < W.heap.size := by obtain ⟨m, hm⟩ := k0; exact DataW.trod_lt m _ _ _ hm
  obtain ⟨q00, q01, q02, q03, q04, q05, q06, q07, rfl, w0⟩ := raw_of (hval 0 27 v0 rfl rfl) h0
  have k1 := h1
  have lt1 : ∀ x ∈ p1, x.block < W.heap.size := by obtain ⟨m, hm⟩ := k1; exact DataW.trod_lt m _ _ _ hm
  obtain ⟨q10, q11, q12, q13, q14, q15, q16, q17, rfl, w1⟩ := raw_of (hval 1 27 v1 rfl rfl) h1
  have k2 := h2
  have lt2 : ∀ x ∈ p2, x.block < W.heap.size := by obtain ⟨m, hm⟩ := k2; exact DataW.trod_lt m _ _ _ hm
  obtain ⟨q20, q21, q22, q23, q24, q25, a2, len2, cap2, q27, q28, z2, rfl, w2, x2⟩ := vb_of (hval 2 25 v2 rfl rfl) h2
  have k3 := h3
  have lt3 : ∀ x ∈ p3, x.block < W.heap.size := by obtain ⟨m, hm⟩ := k3; exact DataW.trod_lt m _ _ _ hm
  obtain ⟨q30, q31, q32, q33, q34, q35, a3, len3, cap3, q37, q38, z3, rfl, w3, x3⟩ := vb_of (hval 3 25 v3 rfl rfl) h3
  obtain ⟨a4, rfl, rfl, rfl, w4⟩ := open_int Try.underlying3 (hval 4 3 v4 rfl rfl) h4
  clear hA0 hval0
  refine (walk q00 q01 q02 q03 q04 q05 q06 q07 q10 q11 q12 q13 q14 q15 q16 q17 q20 q21 q22 q23 q24 q25 a2 len2 cap2 q27 q28 z2 q30 q31 q32 q33 q34 q35 a3 len3 cap3 q37 q38 z3 a4 W w0 w1 w2 x2 w3 x3 w4).mono fun e W' ⟨he, bel⟩ => ?_
  subst he
  exact ⟨_, rfl, _, _, _, [], _, [], hW', trodAll_mk1 (shut_bool Try.underlying4 _), (trodAll_cons_mk (Below.trod laidOut (by kernel_rfl) (of_decide_eq_true (by kernel_rfl)) k0 bel lt0) (trodAll_cons_mk (Below.trod laidOut (by kernel_rfl) (of_decide_eq_true (by kernel_rfl)) k1 bel lt1) (trodAll_cons_mk (Below.trod laidOut (by kernel_rfl) (of_decide_eq_true (by kernel_rfl)) k2 bel lt2) (trodAll_cons_mk (Below.trod laidOut (by kernel_rfl) (of_decide_eq_true (by kernel_rfl)) k3 bel lt3) (trodAll_cons_mk (shut_int Try.underlying3 w4) trodAll_mk0))))), rfl, bel.frame _, fun h => by cases h⟩

theorem over : Rows.verbSameRow.holds Try.pinned (OpenSpec.ofChange Rows.verbSameSpec) :=
  OpenClaim.holds_of_wide 7 Try.f7 rfl rfl rfl rfl rfl rfl rfl ⟨rfl, rfl, rfl, rfl, rfl⟩ rfl rfl rfl rfl rfl (by kernel_rfl) Try.func7 (by kernel_rfl)
    (of_decide_eq_true (by kernel_rfl)) (by unfold Func.isWrapper; first | (rw [if_pos (by decide +kernel)]; kernel_rfl) | (rw [if_neg (by decide +kernel)]; exact ⟨rfl, rfl⟩))
    (fun os started H enc _ => lifted os started H enc)

/-- ████ THE STATEMENT ████ -/
theorem proved : Rows.VerbSameSaid := over
end Go.Proofs.Ytkkeamlpfpcbfaa.verbSame
