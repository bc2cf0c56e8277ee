/-
  For every input VerbPieces returns true, and each argument reads afterwards as before: package verb keeps the document here. No condition.
-/
import Derived.Test.YtkkeamlpfpcbfaaRows
import Derived.Test.YtkkeamlpfpcbfaaVn
import Derived.WalkKit
import Derived.ProofKit
import Derived.OpenShut
import Derived.ShutString
import Derived.ChangeOld
import Derived.Below
namespace Go.Proofs.Ytkkeamlpfpcbfaa.verbPieces
open Go.ChangeShapes Go.WideShapes Go.ChangeAt Go.RowKit Ga Va Vb Vc Vd Ve Vf Vg Vh Vi Vk Vl Vn
set_option linter.unusedSimpArgs false
set_option linter.unusedVariables false

theorem own : ownKnob Try.prog.godebug = none := by kernel_rfl
theorem laidOut : laidOutB Try.prog = true := of_decide_eq_true (by kernel_rfl)

set_option maxRecDepth 100000 in
set_option maxHeartbeats 4000000 in
theorem walk (q00 q01 q02 q03 q04 q05 q06 q07 : Int) (w : World) (w0 : RawWf q00 q01 q02 q03 q04 q05 q06 q07) :
    Calls Try.prog 4 #[.agg #[.int .i64 q00, .int .i64 q01, .int .i64 q02, .int .i64 q03, .int .i64 q04, .int .i64 q05, .int .u64 q06, .int .u64 q07]] w fun e w' => e = .returned (.bool true) ∧ Below w.heap.size w w' := by
  obtain ⟨⟨k0, k1⟩, ⟨d0, d1⟩, ⟨a0, a1'⟩, ⟨n0, n1⟩, ⟨e0, e1⟩, ⟨b0, b1⟩, ⟨x0, x1⟩, ⟨y0, y1⟩⟩ := w0
  obtain ⟨x, rfl⟩ := Int.eq_ofNat_of_zero_le x0
  obtain ⟨y, rfl⟩ := Int.eq_ofNat_of_zero_le y0
  have CO := fun w => of_any q00 q01 q02 q03 q04 q05 x y w k0 k1 d0 d1 a0 a1' n0 n1 e0 e1 b0 b1 (by omega) (by omega)
  have hN : rawN q03 ≤ 2100 := by
    have h1 := pk_lt (q03.tdiv 7) 2100 (by omega)
    have h2 := pk_lt q03 40 (by omega)
    unfold rawN; split <;> omega
  have hM := pk_lt q03 23 (by omega)
  have hb3 := pk_lt q05 3 (by omega)
  generalize rawN q03 = N at *
  generalize rawW y (pk q03 23) = ws at *
  generalize (pk q00 6 : Int) = k at *
  generalize (pk q01 7 : Int) - 1 = nd at *
  generalize (pk q02 900 : Int) - 8 = a at *
  generalize (pk q04 4 : Int) = ky at *
  generalize (pk q05 3 : Int) = bo at *
  generalize pk q03 23 = m at *
  have hc2 : cnt k N m ≤ 9223372036854775807 := cnt_hi (by omega) (by omega)
  have CV := fun (A : Option Addr) (cap : Nat) w => validR_ok k nd a N x y A m cap ky bo w 5 256 hc2
  clear k0 k1 d0 d1 a0 a1' n0 n1 e0 e1 b0 b1 hN hM hb3 x0 x1 y0 y1
  go_enter Try.func4, Try.ntmps4
  go_wp2_with fail
  have hB := Lk.mk ((Below.refl _ w).alloc (Nat.le_refl _) (.cells #[Value.int IntKind.i64 q00, Value.int IntKind.i64 q01, Value.int IntKind.i64 q02, Value.int IntKind.i64 q03, Value.int IntKind.i64 q04, Value.int IntKind.i64 q05, Value.int IntKind.u64 x, Value.int IntKind.u64 y] 27))
  generalize w.alloc _ = W at *
  refine (CO _).mono ?_
  rintro e v1 ⟨A, cap, rfl, hcap, hL, hB1, hF⟩
  have HB1 := Lk.mk (hB.out.trans (hB1.out.mono hB.out.size))
  clear hB hB1 hL hF CO hcap
  go_upto_region 2 with fail
  have HX := Lk.mk (Bx.alloc v1 k nd a N x y A m cap ky bo 25)
  have HB2 := Lk.mk (HB1.out.alloc HB1.out.size (.cells #[Value.int IntKind.i64 k, Value.int IntKind.i64 nd, Value.int IntKind.i64 a, Value.int IntKind.i64 N, Value.int IntKind.u64 x, Value.int IntKind.u64 y, Value.slice A m cap, Value.int IntKind.u64 ky, Value.int IntKind.i64 bo] 25))
  generalize v1.alloc _ = v2 at *
  generalize v1.heap.size = b at *
  obtain ⟨c0, c1, c2, c3, c4, c5, c6, c7, c8⟩ := HX.out
  go_wp2_with fail
  clear c0 c1 c2 c3 c4 c5 c6 c7 c8 HB1
  refine (CV _ _ _).mono ?_
  rintro e v3 ⟨rfl, hB3⟩
  have HX3 := Lk.mk (HX.out.on hB3.out)
  have HB3 := Lk.mk (HB2.out.trans (hB3.out.mono HB2.out.size))
  clear HX HB2 hB3 CV
  obtain ⟨vc, hvc⟩ : ∃ vc, validC k nd a (cnt k N m) 5 256 = vc := ⟨_, rfl⟩
  rw [hvc]
  by_cases hv : vc = 0
  · subst hv
    obtain ⟨h1, h0, h2, _⟩ := validC_zero hvc
    have hva : validC k nd a (cnt k N m) 5 256 = 0 := hvc
    obtain ⟨an, rfl⟩ := Int.eq_ofNat_of_zero_le h0
    obtain ⟨c, hc⟩ : ∃ c : Nat, cnt k N m = c := ⟨(cnt k N m).toNat, by omega⟩
    rw [hc] at h1 h2 hva
    have h1c : 1 ≤ c := by omega
    have h2c : an + c ≤ 2048 := by omega
    have CP := fun w => Pieces_ok k nd N x y an c A m cap ky bo w hc h1c h2c hva
    have CPR := fun w => PiecesR_ok k nd N x y an c A m cap ky bo w hc h1c h2c
    have CC := fun w => class_ok k nd an N x y A m cap ky bo w (by omega) (by omega) (by omega)
    have CCR := fun w => control_ok k nd an N x y A m cap ky bo w (by omega) (by omega) (by omega)
    have CN := fun w => count_any k nd an N x y A m cap ky bo w
    have CNR := fun w => countR_any k nd an N x y A m cap ky bo w
    have CT := fun w => returns_ok k nd an N x y A m cap ky bo w
    have CTR := fun w => returnsR_ok k nd an N x y A m cap ky bo w (by omega)
    rw [kindR (by omega)] at CNR
    rw [hc] at CN CNR CC CCR
    have hK := Lk.mk (show 1 ≤ numP an (an + c) by unfold numP; omega)
    have HE := Lk.mk (show an < an + c by omega)
    have HE2 := Lk.mk (cut_end HE.out)
    have HK2 := Lk.mk (show numP an (an + c) ≤ 256 by unfold numP; omega)
    have HC := Lk.mk (show (an + c) - an = c by omega)
    obtain ⟨q, hq⟩ : ∃ q, ctl k an c = q := ⟨_, rfl⟩
    have HCs := Lk.mk (show classC k an c = if q = true then 1 else 2 by unfold classC; rw [hq])
    rw [hq] at CCR
    rw [HCs.out] at CC
    generalize retC k N m = rt at *
    have H48 := Lk.mk h2c
    generalize an + c = e at *
    clear hvc hva h0 h1 h2 hc2 hq HCs hc h2c h1c
    obtain ⟨c0, c1, c2, c3, c4, c5, c6, c7, c8⟩ := HX3.out
    go_upto_region 4 with fail
    clear c0 c1 c2 c3 c4 c5 c6 c7 c8
    have HH := Lk.mk (held_mk HX3.out HB3)
    go_cut [4, 5] (fun s4 s5 W' => Lk (Ps W' s4 (numP an e) an e) ∧ Lk (Ps W' s5 (numP an e) an e) ∧ Lk (Bx W' b k nd an N x y A m cap ky bo) ∧ Lk (Below w.heap.size w W'))
    case first =>
      clear CC CCR CN CNR CT CTR
      go_region_held3 (fun W' => (World.cell? W' (Addr.mk b 0 none) = some (Value.int IntKind.i64 k) ∧ World.cell? W' (Addr.mk b 1 none) = some (Value.int IntKind.i64 nd) ∧ World.cell? W' (Addr.mk b 2 none) = some (Value.int IntKind.i64 an) ∧ World.cell? W' (Addr.mk b 3 none) = some (Value.int IntKind.i64 N) ∧ World.cell? W' (Addr.mk b 4 none) = some (Value.int IntKind.u64 x) ∧ World.cell? W' (Addr.mk b 5 none) = some (Value.int IntKind.u64 y) ∧ World.cell? W' (Addr.mk b 6 none) = some (Value.slice A m cap) ∧ World.cell? W' (Addr.mk b 7 none) = some (Value.int IntKind.u64 ky) ∧ World.cell? W' (Addr.mk b 8 none) = some (Value.int IntKind.i64 bo) ∧ Lk (Below (Array.size (World.heap w)) w W'))) (first | exact HH.out | assumption | exact held_on (by assumption) (by assumption))
        (first
          | (go_at_call 14; refine (CP _).mono ?_; rintro e w2 ⟨v1, rfl, HO1, HB1⟩)
          | (go_at_call 15; refine (CPR _).mono ?_; rintro e w3 ⟨v2, rfl, HO2, HB2⟩))
      all_goals have HF := Lk.mk (held_below (by assumption))
      all_goals have HG := Lk.mk (held_box (by assumption))
      all_goals go_wp2
      all_goals go_meet
      all_goals exact ⟨⟨(ps_of HO1.out hK.out).on HB2.out⟩, ⟨ps_of HO2.out hK.out⟩, HG, HF.out⟩
    case rest =>
      obtain ⟨HP1, HP2, HX4, HB4⟩ := hcut
      clear CP CPR HH HX3 HB3
      obtain ⟨g1, cap1, hv1, hcp1, hj1⟩ := HP1.out
      obtain ⟨g2, cap2, hv2, hcp2, hj2⟩ := HP2.out
      subst hv1 hv2
      clear HP1 HP2
      have HJ1 := Lk.mk hj1
      have HJ2 := Lk.mk hj2
      clear hj1 hj2
      go_wp2_with fail
      refine (awake_any _).mono ?_
      rintro e' w4 ⟨rfl, hB5⟩
      have HX5 := Lk.mk (HX4.out.on hB5.out)
      have HB5 := Lk.mk (HB4.out.trans (hB5.out.mono HB4.out.size))
      have HJ3 := Lk.mk (fun j (hj : j < numP an e) => And.intro ((hB5.out.cell (block_lt_of_cell (HJ1.out j hj).1)).trans (HJ1.out j hj).1) ((hB5.out.cell (block_lt_of_cell (HJ1.out j hj).2)).trans (HJ1.out j hj).2))
      have HJ4 := Lk.mk (fun j (hj : j < numP an e) => And.intro ((hB5.out.cell (block_lt_of_cell (HJ2.out j hj).1)).trans (HJ2.out j hj).1) ((hB5.out.cell (block_lt_of_cell (HJ2.out j hj).2)).trans (HJ2.out j hj).2))
      clear HX4 HB4 hB5 HJ1 HJ2
      have hc2 := HX5.out.c2
      go_wp2_with fail
      clear hc2
      go_loopw [6, 7, 8] (fun s6 s7 s8 wr => ∃ j : Nat, j ≤ numP an e ∧ s6 = .int .i64 (cutp an e j : Nat) ∧ s7 = .int .i64 ((cutp an e j - an : Nat) : Int) ∧ s8 = .int .i64 j ∧ Lk (Below w4.heap.size w4 wr)) (fun s6 s7 s8 _ => numP an e - (intOf s8).toNat)
      case atStart => exact ⟨0, Nat.zero_le _, rfl, by simp [cutp], rfl, ⟨Below.refl _ _⟩⟩
      case round =>
        obtain ⟨j, hj, rfl, rfl, rfl, HZ⟩ := hrel
        by_cases hlt : j < numP an e
        · have h1 := cut_lt' HE.out hlt
          obtain ⟨h2, h3, h4⟩ := cut_next HE.out hlt
          have h48 := H48.out
          have HLT := Lk.mk (show j < numP an e ∧ numP an e ≤ 256 from ⟨hlt, HK2.out⟩)
          have h5 : an ≤ cutp an e j := by unfold cutp; have := HE.out; split <;> omega
          have f1 := (HZ.out.cell (block_lt_of_cell (HJ3.out j hlt).1)).trans (HJ3.out j hlt).1
          have f2 := (HZ.out.cell (block_lt_of_cell (HJ3.out j hlt).2)).trans (HJ3.out j hlt).2
          have f3 := (HZ.out.cell (block_lt_of_cell (HJ4.out j hlt).1)).trans (HJ4.out j hlt).1
          have f4 := (HZ.out.cell (block_lt_of_cell (HJ4.out j hlt).2)).trans (HJ4.out j hlt).2
          obtain ⟨qn, hqn⟩ : ∃ qn, cutp an e (j + 1) = qn := ⟨_, rfl⟩
          have HQ := Lk.mk hqn
          rw [hqn] at h2 h3 h4 f2 f4
          clear hqn
          generalize cutp an e j = p at *
          have hd1 : 1 ≤ qn - p := by omega
          have hd2 : (p + (qn - p) - 1) / 8 = p / 8 := by omega
          have hd3 : p + (qn - p) = qn := by omega
          have hd4 : p - an + (qn - p) = qn - an := by omega
          generalize qn - p = d at *
          have q1 : (p : Int).tdiv 8 = ((p / 8 : Nat) : Int) := by rw [Int.tdiv_eq_ediv_of_nonneg (by omega)]; omega
          have q2 : ((p : Int) + d - 1).tdiv 8 = ((p / 8 : Nat) : Int) := by rw [Int.tdiv_eq_ediv_of_nonneg (by omega)]; omega
          have u1 : IntKind.i64.wrap ((p : Int) + d) = p + d := IntWalk.i64_in _ (by omega)
          have u2 : IntKind.i64.wrap ((p : Int) + d - 1) = p + d - 1 := IntWalk.i64_in _ (by omega)
          have u3 : IntKind.i64.wrap ((p / 8 : Nat) : Int) = ((p / 8 : Nat) : Int) := IntWalk.i64_in _ (by omega)
          have u4 : IntKind.i64.wrap (((p - an : Nat) : Int) + d) = ((p - an : Nat) : Int) + d := IntWalk.i64_in _ (by omega)
          have HN1 := Lk.mk (show (p : Int) + d = ((qn : Nat) : Int) by omega)
          have HN2 := Lk.mk (show ((p - an : Nat) : Int) + d = ((qn - an : Nat) : Int) by omega)
          clear h2 h3 h4 hd1 hd2 hd3 hd4 h48 h5 h1
          go_upto_region 11 with fail
          go_quiet (fail)
          have HZ2 := Lk.mk (below_drewN HZ.out nq)
          have f5 : (wr.drewN nq).cell? ⟨g1, j * 2 + 1, none⟩ = some (.int .i64 (d : Int)) := f2
          clear f1 f2 f3 f4 q1 q2 u2 u3 HZ
          generalize wr.drewN nq = wq at *
          go_wp2_with fail
          go_quiet (fail)
          have HZ3 := Lk.mk (below_drewN HZ2.out nq)
          clear HZ2 f5 u1 u4
          generalize wq.drewN nq = wp at *
          have hb1 : j < 256 := by have := HLT.out; omega
          go_wp2_with fail
          go_roundw
          case rel => exact ⟨j + 1, (by have := HLT.out; omega), (by rw [HQ.out, ← HN1.out]), (by rw [HQ.out, ← HN2.out]), (by have := HLT.out; first | rfl | go_num), HZ3⟩
          case measure => have := HLT.out; simp [intOf] <;> omega
        · obtain rfl : j = numP an e := by omega
          rw [HE2.out, HC.out]
          have HX6 := Lk.mk (HX5.out.on HZ.out)
          have HB6 := Lk.mk (HB5.out.trans (HZ.out.mono HB5.out.size))
          clear HX5 HB5 HZ HJ3 HJ4
          obtain ⟨c0, c1, c2, c3, c4, c5, c6, c7, c8⟩ := HX6.out
          go_wp2_with fail
          clear c0 c1 c2 c3 c4 c5 c6 c7 c8
          refine (CCR _).mono ?_
          rintro e' w5 ⟨rfl, hB7⟩
          have HX7 := Lk.mk (HX6.out.on hB7.out)
          have HB7 := Lk.mk (HB6.out.trans (hB7.out.mono HB6.out.size))
          clear HX6 HB6 hB7 CCR
          have HH := Lk.mk (held_mk HX7.out HB7)
          cases q with
          | true =>
            simp only [if_true] at CC
            go_wp2_with fail
            go_region_held3 (fun W' => (World.cell? W' (Addr.mk b 0 none) = some (Value.int IntKind.i64 k) ∧ World.cell? W' (Addr.mk b 1 none) = some (Value.int IntKind.i64 nd) ∧ World.cell? W' (Addr.mk b 2 none) = some (Value.int IntKind.i64 an) ∧ World.cell? W' (Addr.mk b 3 none) = some (Value.int IntKind.i64 N) ∧ World.cell? W' (Addr.mk b 4 none) = some (Value.int IntKind.u64 x) ∧ World.cell? W' (Addr.mk b 5 none) = some (Value.int IntKind.u64 y) ∧ World.cell? W' (Addr.mk b 6 none) = some (Value.slice A m cap) ∧ World.cell? W' (Addr.mk b 7 none) = some (Value.int IntKind.u64 ky) ∧ World.cell? W' (Addr.mk b 8 none) = some (Value.int IntKind.i64 bo) ∧ Lk (Below (Array.size (World.heap w)) w W'))) (first | exact HH.out | assumption | exact held_on (by assumption) (by assumption))
              (first
                | (go_at_call 17; refine (CN _).mono ?_; rintro e w2 ⟨rfl, HB2⟩)
                | (go_at_call 18; refine (CNR _).mono ?_; rintro e w2 ⟨rfl, HB2⟩)
                | (go_at_call 19; refine (CC _).mono ?_; rintro e w2 ⟨rfl, HB2⟩)
                | (go_at_call 20; refine (CT _).mono ?_; rintro e w2 ⟨rfl, HB2⟩)
                | (go_at_call 21; refine (CTR _).mono ?_; rintro e w2 ⟨rfl, HB2⟩))
            all_goals have HF := Lk.mk (held_below (by assumption))
            all_goals go_wp2
            all_goals go_ret
            all_goals exact ⟨rfl, HF.out.out⟩
          | false =>
            simp only [Bool.false_eq_true, if_false] at CC
            go_wp2_with fail
            go_region_held3 (fun W' => (World.cell? W' (Addr.mk b 0 none) = some (Value.int IntKind.i64 k) ∧ World.cell? W' (Addr.mk b 1 none) = some (Value.int IntKind.i64 nd) ∧ World.cell? W' (Addr.mk b 2 none) = some (Value.int IntKind.i64 an) ∧ World.cell? W' (Addr.mk b 3 none) = some (Value.int IntKind.i64 N) ∧ World.cell? W' (Addr.mk b 4 none) = some (Value.int IntKind.u64 x) ∧ World.cell? W' (Addr.mk b 5 none) = some (Value.int IntKind.u64 y) ∧ World.cell? W' (Addr.mk b 6 none) = some (Value.slice A m cap) ∧ World.cell? W' (Addr.mk b 7 none) = some (Value.int IntKind.u64 ky) ∧ World.cell? W' (Addr.mk b 8 none) = some (Value.int IntKind.i64 bo) ∧ Lk (Below (Array.size (World.heap w)) w W'))) (first | exact HH.out | assumption | exact held_on (by assumption) (by assumption))
              (first
                | (go_at_call 17; refine (CN _).mono ?_; rintro e w2 ⟨rfl, HB2⟩)
                | (go_at_call 18; refine (CNR _).mono ?_; rintro e w2 ⟨rfl, HB2⟩)
                | (go_at_call 19; refine (CC _).mono ?_; rintro e w2 ⟨rfl, HB2⟩)
                | (go_at_call 20; refine (CT _).mono ?_; rintro e w2 ⟨rfl, HB2⟩)
                | (go_at_call 21; refine (CTR _).mono ?_; rintro e w2 ⟨rfl, HB2⟩))
            all_goals have HF := Lk.mk (held_below (by assumption))
            all_goals go_wp2
            all_goals go_ret
            all_goals exact ⟨rfl, HF.out.out⟩
  · go_wp2_with fail
    refine (awake_any _).mono ?_
    rintro e v4 ⟨rfl, hB4⟩
    have HB4 := Lk.mk (HB3.out.trans (hB4.out.mono HB3.out.size))
    go_wp2
    go_ret
    exact ⟨rfl, HB4.out⟩

set_option maxRecDepth 100000 in
theorem lifted (os : Os) (started : os.Started) (H : Type) (enc : TypeId × Value → H) :
    ReturnsInHanded {} Try.checked os 4 .any (Rows.verbPiecesSpec.pre6 enc Try.prog Try.f4 Rows.verbPiecesRow.domain false) (Rows.verbPiecesSpec.post enc Try.prog Try.f4 false true false false) := by
  refine returnsInHanded_of_change (C := Try.checked) own started (by kernel_rfl) Try.func4
    (ChangeSpec.witness6 (enc := enc) (C := Try.checked) false ⟨#[], #[.agg #[.int .i64 0, .int .i64 0, .int .i64 0, .int .i64 0, .int .i64 0, .int .i64 0, .int .u64 0, .int .u64 0]], []⟩ 8 (by kernel_rfl) (by kernel_rfl) (by kernel_rfl) (by kernel_rfl)) ?_
  intro W base args ds gs before hval0 hW hcnd _
  have hval : ∀ (j : Nat) t v, Try.f4.params[j]? = some t → args[j]? = some v → Value.okWide Try.prog W .any base t v := hval0
  have hW' := hW
  obtain ⟨p, q, hA0, hV, rfl, hfz, hnd⟩ := hW
  have hA : DataW.TrodAll enc Try.prog W 0 (fun _ => true) true Try.f4.params.toList args.toList ds p := hA0
  rw [Try.params4] at hA hval
  obtain ⟨v0, vs0, d0, ds0, p0, q0, hargs, rfl, rfl, h0, r0⟩ := trodAll_cons hA
  obtain ⟨rfl, rfl, rfl⟩ := trodAll_nil r0
  obtain rfl : args = #[v0] := by cases args; simp_all
  obtain ⟨rfl, rfl⟩ := trodVars_none hV
  have k0 := h0
  have lt0 : ∀ x ∈ p0, x.block < W.heap.size := by obtain ⟨m, hm⟩ := k0; exact DataW.trod_lt m _ _ _ hm
  obtain ⟨q00, q01, q02, q03, q04, q05, q06, q07, rfl, w0⟩ := raw_of (hval 0 27 v0 rfl rfl) h0
  clear hA0 hval0
  refine (walk q00 q01 q02 q03 q04 q05 q06 q07 W w0).mono fun e W' ⟨he, bel⟩ => ?_
  subst he
  exact ⟨_, rfl, _, _, _, [], _, [], hW', trodAll_mk1 (shut_bool Try.underlying4 _), (trodAll_cons_mk (Below.trod laidOut (by kernel_rfl) (of_decide_eq_true (by kernel_rfl)) k0 bel lt0) trodAll_mk0), rfl, bel.frame _, fun h => by cases h⟩

theorem over : Rows.verbPiecesRow.holds Try.pinned (OpenSpec.ofChange Rows.verbPiecesSpec) :=
  OpenClaim.holds_of_wide 4 Try.f4 rfl rfl rfl rfl rfl rfl rfl ⟨rfl, rfl, rfl, rfl, rfl⟩ rfl rfl rfl rfl rfl (by kernel_rfl) Try.func4 (by kernel_rfl)
    (of_decide_eq_true (by kernel_rfl)) (by unfold Func.isWrapper; first | (rw [if_pos (by decide +kernel)]; kernel_rfl) | (rw [if_neg (by decide +kernel)]; exact ⟨rfl, rfl⟩))
    (fun os started H enc _ => lifted os started H enc)

/-- ████ THE STATEMENT ████ -/
theorem proved : Rows.VerbPiecesSaid := over
end Go.Proofs.Ytkkeamlpfpcbfaa.verbPieces
