/-
  For every input VerbChecks returns true, and each argument reads afterwards as before: package verb keeps the document here. No condition.
-/
import Derived.Test.YtkkeamlpfpcbfaaRows
import Derived.Test.YtkkeamlpfpcbfaaVk
import Derived.WalkKit
import Derived.ProofKit
import Derived.OpenShut
import Derived.ShutString
import Derived.ChangeOld
import Derived.Below
namespace Go.Proofs.Ytkkeamlpfpcbfaa.verbChecks
open Go.ChangeShapes Go.WideShapes Go.ChangeAt Go.RowKit Ga Va Vb Vc Vd Ve Vf Vg Vh Vi Vk
set_option linter.unusedSimpArgs false
set_option linter.unusedVariables false

theorem own : ownKnob Try.prog.godebug = none := by kernel_rfl
theorem laidOut : laidOutB Try.prog = true := of_decide_eq_true (by kernel_rfl)

set_option maxRecDepth 100000 in
set_option maxHeartbeats 4000000 in
theorem walk (q00 q01 q02 q03 q04 q05 q06 q07 : Int) (a1 : Int) (a2 : Int) (a3 : Int) (a4 : Int) (a5 : Bool) (w : World) (w0 : RawWf q00 q01 q02 q03 q04 q05 q06 q07) (w1 : (Lit.int .i64 a1).wf = true) (w2 : (Lit.int .u64 a2).wf = true) (w3 : (Lit.int .u64 a3).wf = true) (w4 : (Lit.int .u64 a4).wf = true) :
    Calls Try.prog 5 #[.agg #[.int .i64 q00, .int .i64 q01, .int .i64 q02, .int .i64 q03, .int .i64 q04, .int .i64 q05, .int .u64 q06, .int .u64 q07], .int .i64 a1, .int .u64 a2, .int .u64 a3, .int .u64 a4, .bool a5] w fun e w' => e = .returned (.bool true) ∧ Below w.heap.size w w' := by
  obtain ⟨⟨k0, k1⟩, ⟨d0, d1⟩, ⟨a0, a1'⟩, ⟨n0, n1⟩, ⟨e0, e1⟩, ⟨b0, b1⟩, ⟨x0, x1⟩, ⟨y0, y1⟩⟩ := w0
  obtain ⟨x, rfl⟩ := Int.eq_ofNat_of_zero_le x0
  obtain ⟨y, rfl⟩ := Int.eq_ofNat_of_zero_le y0
  have CO := fun w => of_any q00 q01 q02 q03 q04 q05 x y w k0 k1 d0 d1 a0 a1' n0 n1 e0 e1 b0 b1 (by omega) (by omega)
  have hN : rawN q03 ≤ 2100 := by
    have h1 := pk_lt (q03.tdiv 7) 2100 (by omega)
    have h2 := pk_lt q03 40 (by omega)
    unfold rawN; split <;> omega
  have hM := pk_lt q03 23 (by omega)
  have hb3 := pk_lt q05 3 (by omega)
  have hi := bounds_i64 w1
  have CPk := fun w => pick_any a1 5 w (by omega) (by omega) hi.1 hi.2
  have hp5 := pk_lt a1 5 (by omega)
  generalize rawN q03 = N at *
  generalize rawW y (pk q03 23) = ws at *
  generalize (pk q00 6 : Int) = k at *
  generalize (pk q01 7 : Int) - 1 = nd at *
  generalize (pk q02 900 : Int) - 8 = a at *
  generalize (pk q04 4 : Int) = ky at *
  generalize (pk q05 3 : Int) = bo at *
  generalize pk q03 23 = m at *
  have hc2 : cnt k N m ≤ 9223372036854775807 := cnt_hi (by omega) (by omega)
  have CV := fun (A : Option Addr) (cap : Nat) w => validR_ok k nd a N x y A m cap ky bo w 5 256 hc2
  have CK := fun (A : Option Addr) (cap : Nat) w inc door key boot h0 h1 h2 i1 => check_ok k nd a N x y A m cap ky bo w inc door key boot h0 h1 h2 i1 (by omega)
  have CR := fun (A : Option Addr) (cap : Nat) w inc door key boot h0 h1 h2 i1 => checkR_ok k nd a N x y A m cap ky bo w inc door key boot h0 h1 h2 i1 (by omega)
  clear k0 k1 d0 d1 a0 a1' n0 n1 e0 e1 b0 b1 hN hM hb3 x0 x1 y0 y1
  go_enter Try.func5, Try.ntmps5
  go_wp2_with fail
  have hB := Lk.mk ((Below.refl _ w).alloc (Nat.le_refl _) (.cells #[Value.int IntKind.i64 q00, Value.int IntKind.i64 q01, Value.int IntKind.i64 q02, Value.int IntKind.i64 q03, Value.int IntKind.i64 q04, Value.int IntKind.i64 q05, Value.int IntKind.u64 x, Value.int IntKind.u64 y] 27))
  generalize w.alloc _ = W at *
  refine (CO _).mono ?_
  rintro e v1 ⟨A, cap, rfl, hcap, hL, hB1, hF⟩
  have HB1 := Lk.mk (hB.out.trans (hB1.out.mono hB.out.size))
  clear hB hB1 hL hF CO hcap
  go_upto_region 2 with fail
  have HX := Lk.mk (Bx.alloc v1 k nd a N x y A m cap ky bo 25)
  have HB2 := Lk.mk (HB1.out.alloc HB1.out.size (.cells #[Value.int IntKind.i64 k, Value.int IntKind.i64 nd, Value.int IntKind.i64 a, Value.int IntKind.i64 N, Value.int IntKind.u64 x, Value.int IntKind.u64 y, Value.slice A m cap, Value.int IntKind.u64 ky, Value.int IntKind.i64 bo] 25))
  generalize v1.alloc _ = v2 at *
  generalize v1.heap.size = b at *
  obtain ⟨c0, c1, c2, c3, c4, c5, c6, c7, c8⟩ := HX.out
  go_wp2_with fail
  clear c0 c1 c2 c3 c4 c5 c6 c7 c8 HB1
  refine (CV _ _ _).mono ?_
  rintro e v3 ⟨rfl, hB3⟩
  have HX3 := Lk.mk (HX.out.on hB3.out)
  have HB3 := Lk.mk (HB2.out.trans (hB3.out.mono HB2.out.size))
  clear HX HB2 hB3 CV
  obtain ⟨vc, hvc⟩ : ∃ vc, validC k nd a (cnt k N m) 5 256 = vc := ⟨_, rfl⟩
  rw [hvc]
  by_cases hv : vc = 0
  · subst hv
    obtain ⟨h1, h0, h2, _⟩ := validC_zero hvc
    have CK := fun A cap w inc door key boot i1 => CK A cap w inc door key boot h0 h1 (by omega) i1
    have CR := fun A cap w inc door key boot i1 => CR A cap w inc door key boot h0 h1 (by omega) i1
    clear hvc h0 h1 h2 hc2
    generalize cnt k N m = c at *
    cases a5 with
    | true =>
      go_wp2_with (go_at_call 10; refine (CPk _).mono ?_; rintro e w' ⟨rfl, rfl⟩)
      have HH := Lk.mk (held_mk HX3.out HB3)
      clear HX3 HB3 CPk
      go_region_held3 (fun W' => (World.cell? W' (Addr.mk b 0 none) = some (Value.int IntKind.i64 k) ∧ World.cell? W' (Addr.mk b 1 none) = some (Value.int IntKind.i64 nd) ∧ World.cell? W' (Addr.mk b 2 none) = some (Value.int IntKind.i64 a) ∧ World.cell? W' (Addr.mk b 3 none) = some (Value.int IntKind.i64 N) ∧ World.cell? W' (Addr.mk b 4 none) = some (Value.int IntKind.u64 x) ∧ World.cell? W' (Addr.mk b 5 none) = some (Value.int IntKind.u64 y) ∧ World.cell? W' (Addr.mk b 6 none) = some (Value.slice A m cap) ∧ World.cell? W' (Addr.mk b 7 none) = some (Value.int IntKind.u64 ky) ∧ World.cell? W' (Addr.mk b 8 none) = some (Value.int IntKind.i64 bo) ∧ Lk (Below (Array.size (World.heap w)) w W'))) (first | exact HH.out | assumption | exact held_on (by assumption) (by assumption))
        (first
          | (go_at_call 11; refine (awake_any _).mono ?_; rintro e w2 ⟨rfl, HB2⟩)
          | (go_at_call 22; refine (CK _ _ _ _ _ _ _ (by omega)).mono ?_; rintro e w2 ⟨rfl, HB2⟩)
          | (go_at_call 23; refine (CR _ _ _ _ _ _ _ (by omega)).mono ?_; rintro e w2 ⟨rfl, HB2⟩))
      all_goals have HF := Lk.mk (held_below (by assumption))
      all_goals go_wp2
      all_goals go_ret
      all_goals exact ⟨rfl, HF.out.out⟩
    | false =>
      go_wp2_with fail
      have HH := Lk.mk (held_mk HX3.out HB3)
      clear HX3 HB3 CPk
      go_region_held3 (fun W' => (World.cell? W' (Addr.mk b 0 none) = some (Value.int IntKind.i64 k) ∧ World.cell? W' (Addr.mk b 1 none) = some (Value.int IntKind.i64 nd) ∧ World.cell? W' (Addr.mk b 2 none) = some (Value.int IntKind.i64 a) ∧ World.cell? W' (Addr.mk b 3 none) = some (Value.int IntKind.i64 N) ∧ World.cell? W' (Addr.mk b 4 none) = some (Value.int IntKind.u64 x) ∧ World.cell? W' (Addr.mk b 5 none) = some (Value.int IntKind.u64 y) ∧ World.cell? W' (Addr.mk b 6 none) = some (Value.slice A m cap) ∧ World.cell? W' (Addr.mk b 7 none) = some (Value.int IntKind.u64 ky) ∧ World.cell? W' (Addr.mk b 8 none) = some (Value.int IntKind.i64 bo) ∧ Lk (Below (Array.size (World.heap w)) w W'))) (first | exact HH.out | assumption | exact held_on (by assumption) (by assumption))
        (first
          | (go_at_call 11; refine (awake_any _).mono ?_; rintro e w2 ⟨rfl, HB2⟩)
          | (go_at_call 22; refine (CK _ _ _ _ _ _ _ (by omega)).mono ?_; rintro e w2 ⟨rfl, HB2⟩)
          | (go_at_call 23; refine (CR _ _ _ _ _ _ _ (by omega)).mono ?_; rintro e w2 ⟨rfl, HB2⟩))
      all_goals have HF := Lk.mk (held_below (by assumption))
      all_goals go_wp2
      all_goals go_ret
      all_goals exact ⟨rfl, HF.out.out⟩
  · go_wp2_with fail
    refine (awake_any _).mono ?_
    rintro e v4 ⟨rfl, hB4⟩
    have HB4 := Lk.mk (HB3.out.trans (hB4.out.mono HB3.out.size))
    go_wp2
    go_ret
    exact ⟨rfl, HB4.out⟩

set_option maxRecDepth 100000 in
theorem lifted (os : Os) (started : os.Started) (H : Type) (enc : TypeId × Value → H) :
    ReturnsInHanded {} Try.checked os 5 .any (Rows.verbChecksSpec.pre6 enc Try.prog Try.f5 Rows.verbChecksRow.domain false) (Rows.verbChecksSpec.post enc Try.prog Try.f5 false true false false) := by
  refine returnsInHanded_of_change (C := Try.checked) own started (by kernel_rfl) Try.func5
    (ChangeSpec.witness6 (enc := enc) (C := Try.checked) false ⟨#[], #[.agg #[.int .i64 0, .int .i64 0, .int .i64 0, .int .i64 0, .int .i64 0, .int .i64 0, .int .u64 0, .int .u64 0], .int .i64 0, .int .u64 0, .int .u64 0, .int .u64 0, .bool false], []⟩ 8 (by kernel_rfl) (by kernel_rfl) (by kernel_rfl) (by kernel_rfl)) ?_
  intro W base args ds gs before hval0 hW hcnd _
  have hval : ∀ (j : Nat) t v, Try.f5.params[j]? = some t → args[j]? = some v → Value.okWide Try.prog W .any base t v := hval0
  have hW' := hW
  obtain ⟨p, q, hA0, hV, rfl, hfz, hnd⟩ := hW
  have hA : DataW.TrodAll enc Try.prog W 0 (fun _ => true) true Try.f5.params.toList args.toList ds p := hA0
  rw [Try.params5] at hA hval
  obtain ⟨v0, vs0, d0, ds0, p0, q0, hargs, rfl, rfl, h0, r0⟩ := trodAll_cons hA
  obtain ⟨v1, vs1, d1, ds1, p1, q1, rfl, rfl, rfl, h1, r1⟩ := trodAll_cons r0
  obtain ⟨v2, vs2, d2, ds2, p2, q2, rfl, rfl, rfl, h2, r2⟩ := trodAll_cons r1
  obtain ⟨v3, vs3, d3, ds3, p3, q3, rfl, rfl, rfl, h3, r3⟩ := trodAll_cons r2
  obtain ⟨v4, vs4, d4, ds4, p4, q4, rfl, rfl, rfl, h4, r4⟩ := trodAll_cons r3
  obtain ⟨v5, vs5, d5, ds5, p5, q5, rfl, rfl, rfl, h5, r5⟩ := trodAll_cons r4
  obtain ⟨rfl, rfl, rfl⟩ := trodAll_nil r5
  obtain rfl : args = #[v0, v1, v2, v3, v4, v5] := by cases args; simp_all
  obtain ⟨rfl, rfl⟩ := trodVars_none hV
  have k0 := h0
  have lt0 : ∀ x ∈ p0, x.block < W.heap.size := by obtain ⟨m, hm⟩ := k0; exact DataW.trod_lt m _ _ _ hm
  obtain ⟨q00, q01, q02, q03, q04, q05, q06, q07, rfl, w0⟩ := raw_of (hval 0 27 v0 rfl rfl) h0
  obtain ⟨a1, rfl, rfl, rfl, w1⟩ := open_int Try.underlying3 (hval 1 3 v1 rfl rfl) h1
  obtain ⟨a2, rfl, rfl, rfl, w2⟩ := open_int Try.underlying22 (hval 2 22 v2 rfl rfl) h2
  obtain ⟨a3, rfl, rfl, rfl, w3⟩ := open_int Try.underlying22 (hval 3 22 v3 rfl rfl) h3
  obtain ⟨a4, rfl, rfl, rfl, w4⟩ := open_int Try.underlying22 (hval 4 22 v4 rfl rfl) h4
  obtain ⟨a5, rfl, rfl, rfl⟩ := open_bool Try.underlying4 (hval 5 4 v5 rfl rfl) h5
  clear hA0 hval0
  refine (walk q00 q01 q02 q03 q04 q05 q06 q07 a1 a2 a3 a4 a5 W w0 w1 w2 w3 w4).mono fun e W' ⟨he, bel⟩ => ?_
  subst he
  exact ⟨_, rfl, _, _, _, [], _, [], hW', trodAll_mk1 (shut_bool Try.underlying4 _), (trodAll_cons_mk (Below.trod laidOut (by kernel_rfl) (of_decide_eq_true (by kernel_rfl)) k0 bel lt0) (trodAll_cons_mk (shut_int Try.underlying3 w1) (trodAll_cons_mk (shut_int Try.underlying22 w2) (trodAll_cons_mk (shut_int Try.underlying22 w3) (trodAll_cons_mk (shut_int Try.underlying22 w4) (trodAll_cons_mk (shut_bool Try.underlying4 _) trodAll_mk0)))))), rfl, bel.frame _, fun h => by cases h⟩

theorem over : Rows.verbChecksRow.holds Try.pinned (OpenSpec.ofChange Rows.verbChecksSpec) :=
  OpenClaim.holds_of_wide 5 Try.f5 rfl rfl rfl rfl rfl rfl rfl ⟨rfl, rfl, rfl, rfl, rfl⟩ rfl rfl rfl rfl rfl (by kernel_rfl) Try.func5 (by kernel_rfl)
    (of_decide_eq_true (by kernel_rfl)) (by unfold Func.isWrapper; first | (rw [if_pos (by decide +kernel)]; kernel_rfl) | (rw [if_neg (by decide +kernel)]; exact ⟨rfl, rfl⟩))
    (fun os started H enc _ => lifted os started H enc)

/-- ████ THE STATEMENT ████ -/
theorem proved : Rows.VerbChecksSaid := over
end Go.Proofs.Ytkkeamlpfpcbfaa.verbChecks
