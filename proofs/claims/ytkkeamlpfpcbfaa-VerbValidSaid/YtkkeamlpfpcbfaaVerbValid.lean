/-
  For every input VerbValid returns true, and each argument reads afterwards as before: package verb keeps the document here. No condition.
-/
import Derived.Test.YtkkeamlpfpcbfaaRows
import Derived.Test.YtkkeamlpfpcbfaaVl
import Derived.WalkKit
import Derived.ProofKit
import Derived.OpenShut
import Derived.ShutString
import Derived.ChangeOld
import Derived.Below
namespace Go.Proofs.Ytkkeamlpfpcbfaa.verbValid
open Go.ChangeShapes Go.WideShapes Go.ChangeAt Go.RowKit Ga Va Vb Vc Vd Ve Vf Vg Vh Vi Vk Vl
set_option linter.unusedSimpArgs false
set_option linter.unusedVariables false

theorem own : ownKnob Try.prog.godebug = none := by kernel_rfl
theorem laidOut : laidOutB Try.prog = true := of_decide_eq_true (by kernel_rfl)

set_option maxRecDepth 100000 in
set_option maxHeartbeats 4000000 in
theorem walk (q00 q01 q02 q03 q04 q05 : Int) (a0 : Option Addr) (len0 cap0 : Nat) (q07 q08 : Int) (z0 : List Int) (q10 q11 q12 q13 q14 q15 q16 q17 : Int) (a2 : Int) (a3 : Int) (w : World) (w0 : VbWf q00 q01 q02 q03 q04 q05 q07 q08) (r0 : IsRow .u64 w a0 len0 cap0 z0) (w1 : RawWf q10 q11 q12 q13 q14 q15 q16 q17) (w2 : (Lit.int .i64 a2).wf = true) (w3 : (Lit.int .i64 a3).wf = true) :
    Calls Try.prog 3 #[.agg #[.int .i64 q00, .int .i64 q01, .int .i64 q02, .int .i64 q03, .int .u64 q04, .int .u64 q05, .slice a0 len0 cap0, .int .u64 q07, .int .i64 q08], .agg #[.int .i64 q10, .int .i64 q11, .int .i64 q12, .int .i64 q13, .int .i64 q14, .int .i64 q15, .int .u64 q16, .int .u64 q17], .int .i64 a2, .int .i64 a3] w fun e w' => e = .returned (.bool true) ∧ Below w.heap.size w w' := by
  obtain ⟨⟨⟨vk0, vk1⟩, ⟨vd0, vd1⟩, ⟨va0, va1⟩, ⟨vn0, vn1⟩, ⟨ve0, ve1⟩, ⟨vb0, vb1⟩, ⟨vx0, vx1⟩, ⟨vy0, vy1⟩⟩, ⟨vky0, vky1⟩⟩ := w0
  have hlen := r0.len
  obtain ⟨⟨k0, k1⟩, ⟨d0, d1⟩, ⟨a0', a1'⟩, ⟨n0, n1⟩, ⟨e0, e1⟩, ⟨b0, b1⟩, ⟨x0', x1⟩, ⟨y0, y1⟩⟩ := w1
  obtain ⟨x, rfl⟩ := Int.eq_ofNat_of_zero_le x0'
  obtain ⟨y, rfl⟩ := Int.eq_ofNat_of_zero_le y0
  have CO := fun w => of_any q10 q11 q12 q13 q14 q15 x y w k0 k1 d0 d1 a0' a1' n0 n1 e0 e1 b0 b1 (by omega) (by omega)
  have hN : rawN q13 ≤ 2100 := by
    have h1 := pk_lt (q13.tdiv 7) 2100 (by omega)
    have h2 := pk_lt q13 40 (by omega)
    unfold rawN; split <;> omega
  have hM := pk_lt q13 23 (by omega)
  have hi2 := bounds_i64 w2
  have hi3 := bounds_i64 w3
  have CP2 := fun w => pick_any a2 8 w (by omega) (by omega) hi2.1 hi2.2
  have CP3 := fun w => pick_any a3 300 w (by omega) (by omega) hi3.1 hi3.2
  generalize rawN q13 = N at *
  generalize rawW y (pk q13 23) = ws at *
  generalize (pk q10 6 : Int) = k at *
  generalize (pk q11 7 : Int) - 1 = nd at *
  generalize (pk q12 900 : Int) - 8 = a at *
  generalize (pk q14 4 : Int) = ky at *
  generalize (pk q15 3 : Int) = bo at *
  generalize pk q13 23 = m at *
  generalize pk a2 8 = p2 at *
  generalize pk a3 300 = p3 at *
  have hcx : cnt k N m ≤ 9223372036854775807 := cnt_hi (by omega) (by omega)
  have hlm : len0 ≤ 9223372036854775807 := by have := hlen.2.1; have := hlen.2.2; unfold maxLen at this; omega
  have hcv : cnt q00 q03 len0 ≤ 9223372036854775807 := cnt_hi (by omega) hlm
  have CX := fun (A : Option Addr) (cap : Nat) w n l => valid_ok k nd a N x y A m cap ky bo w n l hcx
  have CXR := fun (A : Option Addr) (cap : Nat) w n l => validR_ok k nd a N x y A m cap ky bo w n l hcx
  have CV := fun w n l => valid_ok q00 q01 q02 q03 q04 q05 a0 len0 cap0 q07 q08 w n l hcv
  have CVR := fun w n l => validR_ok q00 q01 q02 q03 q04 q05 a0 len0 cap0 q07 q08 w n l hcv
  generalize cnt k N m = cx at *
  generalize cnt q00 q03 len0 = cv at *
  clear vk0 vk1 vd0 vd1 va0 va1 vn0 vn1 ve0 ve1 vb0 vb1 vx0 vx1 vy0 vy1 vky0 vky1 k0 k1 d0 d1 a0' a1' n0 n1 e0 e1 b0 b1 hN hM x0' x1 y0 y1 hcx hcv hi2 hi3 hlen w2 w3
  go_enter Try.func3, Try.ntmps3
  by_cases h2k : 2000 < len0
  · go_wp2
    go_ret
    exact ⟨rfl, ((Below.refl _ w).alloc (Nat.le_refl _) _).alloc (by simp) _⟩
  go_wp2_with fail
  have HV := Lk.mk (Bx.alloc w q00 q01 q02 q03 q04 q05 a0 len0 cap0 q07 q08 25)
  have hB := Lk.mk ((Below.refl _ w).alloc (Nat.le_refl _) (.cells #[Value.int IntKind.i64 q00, Value.int IntKind.i64 q01, Value.int IntKind.i64 q02, Value.int IntKind.i64 q03, Value.int IntKind.u64 q04, Value.int IntKind.u64 q05, Value.slice a0 len0 cap0, Value.int IntKind.u64 q07, Value.int IntKind.i64 q08] 25))
  generalize w.alloc (.cells #[Value.int IntKind.i64 q00, _, _, _, _, _, _, _, _] _) = W0 at *
  have HV1 := Lk.mk (HV.out.on ((Below.refl _ W0).alloc (Nat.le_refl _) (.cells #[Value.int IntKind.i64 q10, Value.int IntKind.i64 q11, Value.int IntKind.i64 q12, Value.int IntKind.i64 q13, Value.int IntKind.i64 q14, Value.int IntKind.i64 q15, Value.int IntKind.u64 x, Value.int IntKind.u64 y] 27)))
  have hB1 := Lk.mk (hB.out.alloc hB.out.size (.cells #[Value.int IntKind.i64 q10, Value.int IntKind.i64 q11, Value.int IntKind.i64 q12, Value.int IntKind.i64 q13, Value.int IntKind.i64 q14, Value.int IntKind.i64 q15, Value.int IntKind.u64 x, Value.int IntKind.u64 y] 27))
  clear HV hB
  generalize W0.alloc _ = W at *
  refine (CO _).mono ?_
  rintro e v1 ⟨A, cap, rfl, hcap, hL, hB2, hF⟩
  have HB1 := Lk.mk (hB1.out.trans (hB2.out.mono hB1.out.size))
  have HV2 := Lk.mk (HV1.out.on hB2.out)
  clear hB1 hB2 hL hF CO hcap HV1
  go_upto_region 5 with (first
    | (go_at_call_of 10 (Value.int .i64 a2); refine (CP2 _).mono ?_; rintro e w' ⟨rfl, rfl⟩)
    | (go_at_call_of 10 (Value.int .i64 a3); refine (CP3 _).mono ?_; rintro e w' ⟨rfl, rfl⟩))
  have HX := Lk.mk (Bx.alloc v1 k nd a N x y A m cap ky bo 25)
  have HB2 := Lk.mk (HB1.out.alloc HB1.out.size (.cells #[Value.int IntKind.i64 k, Value.int IntKind.i64 nd, Value.int IntKind.i64 a, Value.int IntKind.i64 N, Value.int IntKind.u64 x, Value.int IntKind.u64 y, Value.slice A m cap, Value.int IntKind.u64 ky, Value.int IntKind.i64 bo] 25))
  have HV3 := Lk.mk (HV2.out.on ((Below.refl _ v1).alloc (Nat.le_refl _) (.cells #[Value.int IntKind.i64 k, Value.int IntKind.i64 nd, Value.int IntKind.i64 a, Value.int IntKind.i64 N, Value.int IntKind.u64 x, Value.int IntKind.u64 y, Value.slice A m cap, Value.int IntKind.u64 ky, Value.int IntKind.i64 bo] 25)))
  generalize v1.alloc _ = v2 at *
  generalize v1.heap.size = b at *
  have HH := Lk.mk (And.intro (held_mk HV3.out HB2) (held_mk HX.out HB2))
  clear HV2 HV3 HX HB2 HB1 CP2 CP3
  go_region_held3 (fun W' => (World.cell? W' (Addr.mk w.heap.size 0 none) = some (Value.int IntKind.i64 q00) ∧ World.cell? W' (Addr.mk w.heap.size 1 none) = some (Value.int IntKind.i64 q01) ∧ World.cell? W' (Addr.mk w.heap.size 2 none) = some (Value.int IntKind.i64 q02) ∧ World.cell? W' (Addr.mk w.heap.size 3 none) = some (Value.int IntKind.i64 q03) ∧ World.cell? W' (Addr.mk w.heap.size 4 none) = some (Value.int IntKind.u64 q04) ∧ World.cell? W' (Addr.mk w.heap.size 5 none) = some (Value.int IntKind.u64 q05) ∧ World.cell? W' (Addr.mk w.heap.size 6 none) = some (Value.slice a0 len0 cap0) ∧ World.cell? W' (Addr.mk w.heap.size 7 none) = some (Value.int IntKind.u64 q07) ∧ World.cell? W' (Addr.mk w.heap.size 8 none) = some (Value.int IntKind.i64 q08) ∧ Lk (Below (Array.size (World.heap w)) w W')) ∧ (World.cell? W' (Addr.mk b 0 none) = some (Value.int IntKind.i64 k) ∧ World.cell? W' (Addr.mk b 1 none) = some (Value.int IntKind.i64 nd) ∧ World.cell? W' (Addr.mk b 2 none) = some (Value.int IntKind.i64 a) ∧ World.cell? W' (Addr.mk b 3 none) = some (Value.int IntKind.i64 N) ∧ World.cell? W' (Addr.mk b 4 none) = some (Value.int IntKind.u64 x) ∧ World.cell? W' (Addr.mk b 5 none) = some (Value.int IntKind.u64 y) ∧ World.cell? W' (Addr.mk b 6 none) = some (Value.slice A m cap) ∧ World.cell? W' (Addr.mk b 7 none) = some (Value.int IntKind.u64 ky) ∧ World.cell? W' (Addr.mk b 8 none) = some (Value.int IntKind.i64 bo) ∧ Lk (Below (Array.size (World.heap w)) w W'))) (first | exact HH.out | assumption | exact held2_on (by assumption) (by assumption))
    (first
      | (go_at_call 11; refine (awake_any _).mono ?_; rintro e w2 ⟨rfl, HB2⟩)
      | (go_at_call_of 12 ((Value.agg #[Value.int IntKind.i64 q00, Value.int IntKind.i64 q01, Value.int IntKind.i64 q02, Value.int IntKind.i64 q03, Value.int IntKind.u64 q04, Value.int IntKind.u64 q05, Value.slice a0 len0 cap0, Value.int IntKind.u64 q07, Value.int IntKind.i64 q08])); refine (CV _ _ _).mono ?_; rintro e w2 ⟨rfl, HB2⟩)
      | (go_at_call_of 13 ((Value.agg #[Value.int IntKind.i64 q00, Value.int IntKind.i64 q01, Value.int IntKind.i64 q02, Value.int IntKind.i64 q03, Value.int IntKind.u64 q04, Value.int IntKind.u64 q05, Value.slice a0 len0 cap0, Value.int IntKind.u64 q07, Value.int IntKind.i64 q08])); refine (CVR _ _ _).mono ?_; rintro e w2 ⟨rfl, HB2⟩)
      | (go_at_call_of 12 ((Value.agg #[Value.int IntKind.i64 k, Value.int IntKind.i64 nd, Value.int IntKind.i64 a, Value.int IntKind.i64 N, Value.int IntKind.u64 x, Value.int IntKind.u64 y, Value.slice A m cap, Value.int IntKind.u64 ky, Value.int IntKind.i64 bo])); refine (CX _ _ _ _ _).mono ?_; rintro e w2 ⟨rfl, HB2⟩)
      | (go_at_call_of 13 ((Value.agg #[Value.int IntKind.i64 k, Value.int IntKind.i64 nd, Value.int IntKind.i64 a, Value.int IntKind.i64 N, Value.int IntKind.u64 x, Value.int IntKind.u64 y, Value.slice A m cap, Value.int IntKind.u64 ky, Value.int IntKind.i64 bo])); refine (CXR _ _ _ _ _).mono ?_; rintro e w2 ⟨rfl, HB2⟩))
  all_goals have HF := Lk.mk (held2_below (by assumption))
  all_goals go_wp2
  all_goals go_ret
  all_goals exact ⟨rfl, HF.out.out⟩

set_option maxRecDepth 100000 in
theorem lifted (os : Os) (started : os.Started) (H : Type) (enc : TypeId × Value → H) :
    ReturnsInHanded {} Try.checked os 3 .any (Rows.verbValidSpec.pre6 enc Try.prog Try.f3 Rows.verbValidRow.domain false) (Rows.verbValidSpec.post enc Try.prog Try.f3 false true false false) := by
  refine returnsInHanded_of_change (C := Try.checked) own started (by kernel_rfl) Try.func3
    (ChangeSpec.witness6 (enc := enc) (C := Try.checked) false ⟨#[], #[.agg #[.int .i64 0, .int .i64 0, .int .i64 0, .int .i64 0, .int .u64 0, .int .u64 0, .slice none 0 0, .int .u64 0, .int .i64 0], .agg #[.int .i64 0, .int .i64 0, .int .i64 0, .int .i64 0, .int .i64 0, .int .i64 0, .int .u64 0, .int .u64 0], .int .i64 0, .int .i64 0], []⟩ 8 (by kernel_rfl) (by kernel_rfl) (by kernel_rfl) (by kernel_rfl)) ?_
  intro W base args ds gs before hval0 hW hcnd _
  have hval : ∀ (j : Nat) t v, Try.f3.params[j]? = some t → args[j]? = some v → Value.okWide Try.prog W .any base t v := hval0
  have hW' := hW
  obtain ⟨p, q, hA0, hV, rfl, hfz, hnd⟩ := hW
  have hA : DataW.TrodAll enc Try.prog W 0 (fun _ => true) true Try.f3.params.toList args.toList ds p := hA0
  rw [Try.params3] at hA hval
  obtain ⟨v0, vs0, d0, ds0, p0, q0, hargs, rfl, rfl, h0, r0⟩ := trodAll_cons hA
  obtain ⟨v1, vs1, d1, ds1, p1, q1, rfl, rfl, rfl, h1, r1⟩ := trodAll_cons r0
  obtain ⟨v2, vs2, d2, ds2, p2, q2, rfl, rfl, rfl, h2, r2⟩ := trodAll_cons r1
  obtain ⟨v3, vs3, d3, ds3, p3, q3, rfl, rfl, rfl, h3, r3⟩ := trodAll_cons r2
  obtain ⟨rfl, rfl, rfl⟩ := trodAll_nil r3
  obtain rfl : args = #[v0, v1, v2, v3] := by cases args; simp_all
  obtain ⟨rfl, rfl⟩ := trodVars_none hV
  have k0 := h0
  have lt0 : ∀ x ∈ p0, x.block < W.heap.size := by obtain ⟨m, hm⟩ := k0; exact DataW.trod_lt m _ _ _ hm
  obtain ⟨q00, q01, q02, q03, q04, q05, a0, len0, cap0, q07, q08, z0, rfl, w0, x0⟩ := vb_of (hval 0 25 v0 rfl rfl) h0
  have k1 := h1
  have lt1 : ∀ x ∈ p1, x.block < W.heap.size := by obtain ⟨m, hm⟩ := k1; exact DataW.trod_lt m _ _ _ hm
  obtain ⟨q10, q11, q12, q13, q14, q15, q16, q17, rfl, w1⟩ := raw_of (hval 1 27 v1 rfl rfl) h1
  obtain ⟨a2, rfl, rfl, rfl, w2⟩ := open_int Try.underlying3 (hval 2 3 v2 rfl rfl) h2
  obtain ⟨a3, rfl, rfl, rfl, w3⟩ := open_int Try.underlying3 (hval 3 3 v3 rfl rfl) h3
  clear hA0 hval0
  refine (walk q00 q01 q02 q03 q04 q05 a0 len0 cap0 q07 q08 z0 q10 q11 q12 q13 q14 q15 q16 q17 a2 a3 W w0 x0 w1 w2 w3).mono fun e W' ⟨he, bel⟩ => ?_
  subst he
  exact ⟨_, rfl, _, _, _, [], _, [], hW', trodAll_mk1 (shut_bool Try.underlying4 _), (trodAll_cons_mk (Below.trod laidOut (by kernel_rfl) (of_decide_eq_true (by kernel_rfl)) k0 bel lt0) (trodAll_cons_mk (Below.trod laidOut (by kernel_rfl) (of_decide_eq_true (by kernel_rfl)) k1 bel lt1) (trodAll_cons_mk (shut_int Try.underlying3 w2) (trodAll_cons_mk (shut_int Try.underlying3 w3) trodAll_mk0)))), rfl, bel.frame _, fun h => by cases h⟩

theorem over : Rows.verbValidRow.holds Try.pinned (OpenSpec.ofChange Rows.verbValidSpec) :=
  OpenClaim.holds_of_wide 3 Try.f3 rfl rfl rfl rfl rfl rfl rfl ⟨rfl, rfl, rfl, rfl, rfl⟩ rfl rfl rfl rfl rfl (by kernel_rfl) Try.func3 (by kernel_rfl)
    (of_decide_eq_true (by kernel_rfl)) (by unfold Func.isWrapper; first | (rw [if_pos (by decide +kernel)]; kernel_rfl) | (rw [if_neg (by decide +kernel)]; exact ⟨rfl, rfl⟩))
    (fun os started H enc _ => lifted os started H enc)

/-- ████ THE STATEMENT ████ -/
theorem proved : Rows.VerbValidSaid := over
end Go.Proofs.Ytkkeamlpfpcbfaa.verbValid
