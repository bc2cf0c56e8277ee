/-
  For every input VerbFences returns true, and each argument reads afterwards as before: package verb keeps the document here. No condition.
-/
import Derived.Test.YtkkeamlpfpcbfaaRows
import Derived.Test.YtkkeamlpfpcbfaaVl
import Derived.WalkKit
import Derived.ProofKit
import Derived.OpenShut
import Derived.ShutString
import Derived.ChangeOld
import Derived.Below
namespace Go.Proofs.Ytkkeamlpfpcbfaa.verbFences
open Go.ChangeShapes Go.WideShapes Go.ChangeAt Go.RowKit Ga Va Vb Vc Vd Ve Vf Vg Vh Vi Vk Vl
set_option linter.unusedSimpArgs false
set_option linter.unusedVariables false

theorem own : ownKnob Try.prog.godebug = none := by kernel_rfl
theorem laidOut : laidOutB Try.prog = true := of_decide_eq_true (by kernel_rfl)

set_option maxRecDepth 100000 in
set_option maxHeartbeats 4000000 in
theorem walk (q00 q01 q02 q03 q04 q05 q06 q07 : Int) (a1 : Int) (a2 : Int) (a3 : Int) (w : World) (w0 : RawWf q00 q01 q02 q03 q04 q05 q06 q07) (w1 : (Lit.int .i64 a1).wf = true) (w2 : (Lit.int .i64 a2).wf = true) (w3 : (Lit.int .u64 a3).wf = true) :
    Calls Try.prog 6 #[.agg #[.int .i64 q00, .int .i64 q01, .int .i64 q02, .int .i64 q03, .int .i64 q04, .int .i64 q05, .int .u64 q06, .int .u64 q07], .int .i64 a1, .int .i64 a2, .int .u64 a3] w fun e w' => e = .returned (.bool true) ∧ Below w.heap.size w w' := by
  obtain ⟨⟨k0, k1⟩, ⟨d0, d1⟩, ⟨a0, a1'⟩, ⟨n0, n1⟩, ⟨e0, e1⟩, ⟨b0, b1⟩, ⟨x0, x1⟩, ⟨y0, y1⟩⟩ := w0
  obtain ⟨x, rfl⟩ := Int.eq_ofNat_of_zero_le x0
  obtain ⟨y, rfl⟩ := Int.eq_ofNat_of_zero_le y0
  have CO := fun w => of_any q00 q01 q02 q03 q04 q05 x y w k0 k1 d0 d1 a0 a1' n0 n1 e0 e1 b0 b1 (by omega) (by omega)
  have hN : rawN q03 ≤ 2100 := by
    have h1 := pk_lt (q03.tdiv 7) 2100 (by omega)
    have h2 := pk_lt q03 40 (by omega)
    unfold rawN; split <;> omega
  have hM := pk_lt q03 23 (by omega)
  have hb3 := pk_lt q05 3 (by omega)
  have hi1 := bounds_i64 w1
  have hi2 := bounds_i64 w2
  have hu3 := bounds_u64 w3
  have CP1 := fun w => pick_any a1 59 w (by omega) (by omega) hi1.1 hi1.2
  have CP2 := fun w => pick_any a2 9 w (by omega) (by omega) hi2.1 hi2.2
  have hp1 := pk_lt a1 59 (by omega)
  have hp2 := pk_lt a2 9 (by omega)
  generalize rawN q03 = N at *
  generalize rawW y (pk q03 23) = ws at *
  generalize (pk q00 6 : Int) = k at *
  generalize (pk q01 7 : Int) - 1 = nd at *
  generalize (pk q02 900 : Int) - 8 = a at *
  generalize (pk q04 4 : Int) = ky at *
  generalize (pk q05 3 : Int) = bo at *
  generalize pk q03 23 = m at *
  have hc2 : cnt k N m ≤ 9223372036854775807 := cnt_hi (by omega) (by omega)
  have CV := fun (A : Option Addr) (cap : Nat) w => validR_ok k nd a N x y A m cap ky bo w 5 256 hc2
  have CK := fun (A : Option Addr) (cap : Nat) (K : Int) w inc door key h0 h1 h2 i1 => check_ok k nd a N x y A m cap K 1 w inc door key 1 h0 h1 h2 i1 (by omega)
  have CC := fun (A : Option Addr) (cap : Nat) (K : Int) w h0 h1 h2 => class_ok k nd a N x y A m cap K 1 w h0 h1 h2
  clear k0 k1 d0 d1 a0 a1' n0 n1 e0 e1 b0 b1 hN hM hb3 x0 x1 y0 y1
  go_enter Try.func6, Try.ntmps6
  go_wp2_with fail
  have hB := Lk.mk ((Below.refl _ w).alloc (Nat.le_refl _) (.cells #[Value.int IntKind.i64 q00, Value.int IntKind.i64 q01, Value.int IntKind.i64 q02, Value.int IntKind.i64 q03, Value.int IntKind.i64 q04, Value.int IntKind.i64 q05, Value.int IntKind.u64 x, Value.int IntKind.u64 y] 27))
  generalize w.alloc _ = W at *
  refine (CO _).mono ?_
  rintro e v1 ⟨A, cap, rfl, hcap, hL, hB1, hF⟩
  have HB1 := Lk.mk (hB.out.trans (hB1.out.mono hB.out.size))
  clear hB hB1 hL hF CO hcap
  go_upto_region 2 with fail
  have HX := Lk.mk (heap_alloc_new v1 (.cells #[Value.int IntKind.i64 k, Value.int IntKind.i64 nd, Value.int IntKind.i64 a, Value.int IntKind.i64 N, Value.int IntKind.u64 x, Value.int IntKind.u64 y, Value.slice A m cap, Value.int IntKind.u64 ky, Value.int IntKind.i64 bo] 25))
  have HB2 := Lk.mk (HB1.out.alloc HB1.out.size (.cells #[Value.int IntKind.i64 k, Value.int IntKind.i64 nd, Value.int IntKind.i64 a, Value.int IntKind.i64 N, Value.int IntKind.u64 x, Value.int IntKind.u64 y, Value.slice A m cap, Value.int IntKind.u64 ky, Value.int IntKind.i64 bo] 25))
  generalize v1.alloc _ = v2 at *
  generalize hgb : v1.heap.size = b at *
  have HGe := Lk.mk (show w.heap.size ≤ b by have := HB1.out.size; omega)
  obtain ⟨c0, c1, c2, c3, c4, c5, c6, c7, c8⟩ := Bx.of_heap HX.out
  go_wp2_with fail
  clear c0 c1 c2 c3 c4 c5 c6 c7 c8 HB1
  refine (CV _ _ _).mono ?_
  rintro e v3 ⟨rfl, hB3⟩
  have HX3 := Lk.mk ((hB3.out.block b (Array.getElem?_eq_some_iff.1 HX.out).1).trans HX.out)
  have HB3 := Lk.mk (HB2.out.trans (hB3.out.mono HB2.out.size))
  clear HX HB2 hB3 CV
  obtain ⟨vc, hvc⟩ : ∃ vc, validC k nd a (cnt k N m) 5 256 = vc := ⟨_, rfl⟩
  rw [hvc]
  by_cases hv : vc = 0
  · subst hv
    obtain ⟨h1, h0, h2, _⟩ := validC_zero hvc
    have CK := fun A cap K w inc door key i1 => CK A cap K w inc door key h0 h1 (by omega) i1
    have CC := fun A cap K w => CC A cap K w h0 h1 (by omega)
    clear hvc h0 h1 h2 hc2
    generalize cnt k N m = c at *
    have s7 := (cell_of_row v3 b 7 _ _ _ HX3.out).trans rfl
    have s8 := (cell_of_row v3 b 8 _ _ _ HX3.out).trans rfl
    have g7 := frozen_of_row v3 b 7 _ _ HX3.out
    have g8 := frozen_of_row v3 b 8 _ _ HX3.out
    obtain ⟨p1, hp1e⟩ : ∃ p1 : Int, (pk a1 59 : Int) + 1 = p1 := ⟨_, rfl⟩
    obtain ⟨p2, hp2e⟩ : ∃ p2 : Int, (pk a2 9 : Int) + 1 = p2 := ⟨_, rfl⟩
    go_upto_region 6 with (first
      | (go_at_call_of 10 (Value.int .i64 a1); refine (CP1 _).mono ?_; rintro e w' ⟨rfl, rfl⟩)
      | (go_at_call_of 10 (Value.int .i64 a2); refine (CP2 _).mono ?_; rintro e w' ⟨rfl, rfl⟩))
    have hK0 : 0 ≤ a3 % 1000 ∧ a3 % 1000 < 1000 := by omega
    generalize a3 % 1000 = K at *
    have hs7 : (v3.setCell ⟨b, 7, none⟩ (.int .u64 K)).heap[b]? = some (.cells #[Value.int IntKind.i64 k, Value.int IntKind.i64 nd, Value.int IntKind.i64 a, Value.int IntKind.i64 N, Value.int IntKind.u64 x, Value.int IntKind.u64 y, Value.slice A m cap, Value.int IntKind.u64 K, Value.int IntKind.i64 bo] 25 (0, 0)) := heap_setCell_same _ b 7 _ _ _ HX3.out
    have hs8 : ((v3.setCell ⟨b, 7, none⟩ (.int .u64 K)).setCell ⟨b, 8, none⟩ (.int .i64 1)).heap[b]? = some (.cells #[Value.int IntKind.i64 k, Value.int IntKind.i64 nd, Value.int IntKind.i64 a, Value.int IntKind.i64 N, Value.int IntKind.u64 x, Value.int IntKind.u64 y, Value.slice A m cap, Value.int IntKind.u64 K, Value.int IntKind.i64 1] 25 (0, 0)) := heap_setCell_same _ b 8 _ _ _ hs7
    have HX4 := Lk.mk (Bx.of_heap hs8)
    have HB4 := Lk.mk ((HB3.out.setCell (p := ⟨b, 7, none⟩) HGe.out (.int .u64 K)).setCell (p := ⟨b, 8, none⟩) HGe.out (.int .i64 1))
    clear hs7 hs8 HX3 HB3 s7 s8 g7 g8 CP1 CP2
    generalize (v3.setCell _ _).setCell _ _ = v4 at *
    have HH := Lk.mk (held_mk HX4.out HB4)
    have hp1' : 1 ≤ p1 ∧ p1 ≤ 59 := by omega
    have hp2' : 1 ≤ p2 ∧ p2 ≤ 9 := by omega
    clear hp1e hp2e hp1 hp2 HX4 HB4 hi1 hi2 hu3 hgb
    obtain ⟨q, hq⟩ : ∃ q, ctl k a c = q := ⟨_, rfl⟩
    have HO := Lk.mk (show checkC k a c K 1 p1 p1 K 1 = 0 by
      unfold checkC
      by_cases h1 : ctl k a c = true ∧ k = 1
      · rw [if_pos h1]
      · rw [if_neg h1, if_neg (by omega)]
        by_cases h2 : ctl k a c = true
        · rw [if_pos h2]
        · rw [if_neg h2, if_neg (by omega)])
    have HFn := Lk.mk (show checkC k a c K 1 p1 (p1 + p2) K 1 = if q = true ∧ k = 1 then 0 else 5 by
      unfold checkC
      rw [hq]
      by_cases h1 : q = true ∧ k = 1
      · rw [if_pos h1, if_pos h1]
      · rw [if_neg h1, if_neg h1, if_pos (by omega)])
    have HCl := Lk.mk (show checkC k a c K 1 p1 p1 (K + 1) 1 = if q = true then 0 else 5 by
      unfold checkC
      rw [hq]
      have e1 : ¬ (p1 < 0 ∨ p1 < p1) := by omega
      have e2 : (1 : Int) < 0 ∨ (1 : Int) ≠ 1 ∨ K ≠ K + 1 := by omega
      cases q with
      | true => rw [if_neg e1]; simp
      | false => rw [if_neg e1, if_pos e2]; simp)
    have HCs := Lk.mk (show classC k a c = if q = true then 1 else 2 by unfold classC; rw [hq])
    clear hq
    have u1 : IntKind.u64.wrap p1 = p1 := IntWalk.u64_in _ (by omega)
    have u2 : IntKind.i64.wrap (p1 + p2) = p1 + p2 := IntWalk.i64_in _ (by omega)
    have u3 : IntKind.u64.wrap (p1 + p2) = p1 + p2 := IntWalk.u64_in _ (by omega)
    have u4 : IntKind.u64.wrap (K + 1) = K + 1 := IntWalk.u64_in _ (by omega)
    go_cut [10, 11, 12] (fun x10 x11 x12 W' => x10 = .int .i64 (checkC k a c K 1 p1 p1 K 1) ∧ x11 = .int .i64 (checkC k a c K 1 p1 (p1 + p2) K 1) ∧ x12 = .int .i64 (checkC k a c K 1 p1 p1 (K + 1) 1) ∧ Lk (Bx W' b k nd a N x y A m cap K 1) ∧ Lk (Below w.heap.size w W'))
    case first =>
      go_region_held3 (fun W' => (World.cell? W' (Addr.mk b 0 none) = some (Value.int IntKind.i64 k) ∧ World.cell? W' (Addr.mk b 1 none) = some (Value.int IntKind.i64 nd) ∧ World.cell? W' (Addr.mk b 2 none) = some (Value.int IntKind.i64 a) ∧ World.cell? W' (Addr.mk b 3 none) = some (Value.int IntKind.i64 N) ∧ World.cell? W' (Addr.mk b 4 none) = some (Value.int IntKind.u64 x) ∧ World.cell? W' (Addr.mk b 5 none) = some (Value.int IntKind.u64 y) ∧ World.cell? W' (Addr.mk b 6 none) = some (Value.slice A m cap) ∧ World.cell? W' (Addr.mk b 7 none) = some (Value.int IntKind.u64 K) ∧ World.cell? W' (Addr.mk b 8 none) = some (Value.int IntKind.i64 1) ∧ Lk (Below (Array.size (World.heap w)) w W'))) (first | exact HH.out | assumption | exact held_on (by assumption) (by assumption))
        (first
          | (go_at_call 22; refine (CK _ _ _ _ _ _ _ (by omega)).mono ?_; rintro e w2 ⟨rfl, HB2⟩))
      all_goals have HF := Lk.mk (held_below (by assumption))
      all_goals have HG := Lk.mk (held_box (by assumption))
      all_goals go_wp2
      all_goals go_meet
      all_goals exact ⟨rfl, rfl, rfl, HG, HF.out⟩
    case rest =>
      obtain ⟨rfl, rfl, rfl, HX5, HB5⟩ := hcut
      clear HH u1 u2 u3 u4 CK
      by_cases e1 : k = 1
      · subst e1
        cases q with
        | true =>
          have e1 : True := trivial
          have f1 : checkC 1 a c K 1 p1 (p1 + p2) K 1 = 0 := by rw [HFn.out]; simp [e1]
          have f2 : checkC 1 a c K 1 p1 p1 (K + 1) 1 = 0 := by rw [HCl.out]; simp
          have f3 : classC 1 a c = 1 := by rw [HCs.out]; simp
          rw [HO.out, f1, f2]
          rw [f3] at CC
          clear HO HFn HCl HCs f1 f2 f3
          obtain ⟨c0, c1, c2, c3, c4, c5, c6, c7, c8⟩ := HX5.out
          go_wp2_with fail
          clear c0 c1 c2 c3 c4 c5 c6 c7 c8
          refine (awake_any _).mono ?_
          rintro e v5 ⟨rfl, hB6⟩
          have HX6 := Lk.mk (HX5.out.on hB6.out)
          have HB6 := Lk.mk (HB5.out.trans (hB6.out.mono HB5.out.size))
          obtain ⟨c0, c1, c2, c3, c4, c5, c6, c7, c8⟩ := HX6.out
          clear HX5 HB5 hB6
          go_wp2_with fail
          refine (CC _ _ _ _).mono ?_
          rintro e v6 ⟨rfl, hB7⟩
          have HB7 := Lk.mk (HB6.out.trans (hB7.out.mono HB6.out.size))
          go_wp2
          go_ret
          exact ⟨rfl, HB7.out⟩
        | false =>
          have e1 : True := trivial
          have f1 : checkC 1 a c K 1 p1 (p1 + p2) K 1 = 5 := by rw [HFn.out]; simp [e1]
          have f2 : checkC 1 a c K 1 p1 p1 (K + 1) 1 = 5 := by rw [HCl.out]; simp
          have f3 : classC 1 a c = 2 := by rw [HCs.out]; simp
          rw [HO.out, f1, f2]
          rw [f3] at CC
          clear HO HFn HCl HCs f1 f2 f3
          obtain ⟨c0, c1, c2, c3, c4, c5, c6, c7, c8⟩ := HX5.out
          go_wp2_with fail
          clear c0 c1 c2 c3 c4 c5 c6 c7 c8
          refine (awake_any _).mono ?_
          rintro e v5 ⟨rfl, hB6⟩
          have HX6 := Lk.mk (HX5.out.on hB6.out)
          have HB6 := Lk.mk (HB5.out.trans (hB6.out.mono HB5.out.size))
          obtain ⟨c0, c1, c2, c3, c4, c5, c6, c7, c8⟩ := HX6.out
          clear HX5 HB5 hB6
          go_wp2_with fail
          refine (CC _ _ _ _).mono ?_
          rintro e v6 ⟨rfl, hB7⟩
          have HB7 := Lk.mk (HB6.out.trans (hB7.out.mono HB6.out.size))
          have HX7 := Lk.mk (HX6.out.on hB7.out)
          clear c0 c1 c2 c3 c4 c5 c6 c7 c8
          obtain ⟨c0, c1, c2, c3, c4, c5, c6, c7, c8⟩ := HX7.out
          go_wp2_with fail
          refine (CC _ _ _ _).mono ?_
          rintro e v7 ⟨rfl, hB8⟩
          have HB8 := Lk.mk (HB7.out.trans (hB8.out.mono HB7.out.size))
          go_wp2
          go_ret
          exact ⟨rfl, HB8.out⟩
      · cases q with
        | true =>
          have f1 : checkC k a c K 1 p1 (p1 + p2) K 1 = 5 := by rw [HFn.out]; simp [e1]
          have f2 : checkC k a c K 1 p1 p1 (K + 1) 1 = 0 := by rw [HCl.out]; simp
          have f3 : classC k a c = 1 := by rw [HCs.out]; simp
          rw [HO.out, f1, f2]
          rw [f3] at CC
          clear HO HFn HCl HCs f1 f2 f3
          obtain ⟨c0, c1, c2, c3, c4, c5, c6, c7, c8⟩ := HX5.out
          go_wp2_with fail
          clear c0 c1 c2 c3 c4 c5 c6 c7 c8
          refine (awake_any _).mono ?_
          rintro e v5 ⟨rfl, hB6⟩
          have HX6 := Lk.mk (HX5.out.on hB6.out)
          have HB6 := Lk.mk (HB5.out.trans (hB6.out.mono HB5.out.size))
          obtain ⟨c0, c1, c2, c3, c4, c5, c6, c7, c8⟩ := HX6.out
          clear HX5 HB5 hB6
          go_wp2_with fail
          refine (CC _ _ _ _).mono ?_
          rintro e v6 ⟨rfl, hB7⟩
          have HB7 := Lk.mk (HB6.out.trans (hB7.out.mono HB6.out.size))
          go_wp2
          go_ret
          exact ⟨rfl, HB7.out⟩
        | false =>
          have f1 : checkC k a c K 1 p1 (p1 + p2) K 1 = 5 := by rw [HFn.out]; simp [e1]
          have f2 : checkC k a c K 1 p1 p1 (K + 1) 1 = 5 := by rw [HCl.out]; simp
          have f3 : classC k a c = 2 := by rw [HCs.out]; simp
          rw [HO.out, f1, f2]
          rw [f3] at CC
          clear HO HFn HCl HCs f1 f2 f3
          obtain ⟨c0, c1, c2, c3, c4, c5, c6, c7, c8⟩ := HX5.out
          go_wp2_with fail
          clear c0 c1 c2 c3 c4 c5 c6 c7 c8
          refine (awake_any _).mono ?_
          rintro e v5 ⟨rfl, hB6⟩
          have HX6 := Lk.mk (HX5.out.on hB6.out)
          have HB6 := Lk.mk (HB5.out.trans (hB6.out.mono HB5.out.size))
          obtain ⟨c0, c1, c2, c3, c4, c5, c6, c7, c8⟩ := HX6.out
          clear HX5 HB5 hB6
          go_wp2_with fail
          refine (CC _ _ _ _).mono ?_
          rintro e v6 ⟨rfl, hB7⟩
          have HB7 := Lk.mk (HB6.out.trans (hB7.out.mono HB6.out.size))
          go_wp2
          go_ret
          exact ⟨rfl, HB7.out⟩
  · go_wp2_with fail
    refine (awake_any _).mono ?_
    rintro e v4 ⟨rfl, hB4⟩
    have HB4 := Lk.mk (HB3.out.trans (hB4.out.mono HB3.out.size))
    go_wp2
    go_ret
    exact ⟨rfl, HB4.out⟩

set_option maxRecDepth 100000 in
theorem lifted (os : Os) (started : os.Started) (H : Type) (enc : TypeId × Value → H) :
    ReturnsInHanded {} Try.checked os 6 .any (Rows.verbFencesSpec.pre6 enc Try.prog Try.f6 Rows.verbFencesRow.domain false) (Rows.verbFencesSpec.post enc Try.prog Try.f6 false true false false) := by
  refine returnsInHanded_of_change (C := Try.checked) own started (by kernel_rfl) Try.func6
    (ChangeSpec.witness6 (enc := enc) (C := Try.checked) false ⟨#[], #[.agg #[.int .i64 0, .int .i64 0, .int .i64 0, .int .i64 0, .int .i64 0, .int .i64 0, .int .u64 0, .int .u64 0], .int .i64 0, .int .i64 0, .int .u64 0], []⟩ 8 (by kernel_rfl) (by kernel_rfl) (by kernel_rfl) (by kernel_rfl)) ?_
  intro W base args ds gs before hval0 hW hcnd _
  have hval : ∀ (j : Nat) t v, Try.f6.params[j]? = some t → args[j]? = some v → Value.okWide Try.prog W .any base t v := hval0
  have hW' := hW
  obtain ⟨p, q, hA0, hV, rfl, hfz, hnd⟩ := hW
  have hA : DataW.TrodAll enc Try.prog W 0 (fun _ => true) true Try.f6.params.toList args.toList ds p := hA0
  rw [Try.params6] at hA hval
  obtain ⟨v0, vs0, d0, ds0, p0, q0, hargs, rfl, rfl, h0, r0⟩ := trodAll_cons hA
  obtain ⟨v1, vs1, d1, ds1, p1, q1, rfl, rfl, rfl, h1, r1⟩ := trodAll_cons r0
  obtain ⟨v2, vs2, d2, ds2, p2, q2, rfl, rfl, rfl, h2, r2⟩ := trodAll_cons r1
  obtain ⟨v3, vs3, d3, ds3, p3, q3, rfl, rfl, rfl, h3, r3⟩ := trodAll_cons r2
  obtain ⟨rfl, rfl, rfl⟩ := trodAll_nil r3
  obtain rfl : args = #[v0, v1, v2, v3] := by cases args; simp_all
  obtain ⟨rfl, rfl⟩ := trodVars_none hV
  have k0 := h0
  have lt0 : ∀ x ∈ p0, x.block < W.heap.size := by obtain ⟨m, hm⟩ := k0; exact DataW.trod_lt m _ _ _ hm
  obtain ⟨q00, q01, q02, q03, q04, q05, q06, q07, rfl, w0⟩ := raw_of (hval 0 27 v0 rfl rfl) h0
  obtain ⟨a1, rfl, rfl, rfl, w1⟩ := open_int Try.underlying3 (hval 1 3 v1 rfl rfl) h1
  obtain ⟨a2, rfl, rfl, rfl, w2⟩ := open_int Try.underlying3 (hval 2 3 v2 rfl rfl) h2
  obtain ⟨a3, rfl, rfl, rfl, w3⟩ := open_int Try.underlying22 (hval 3 22 v3 rfl rfl) h3
  clear hA0 hval0
  refine (walk q00 q01 q02 q03 q04 q05 q06 q07 a1 a2 a3 W w0 w1 w2 w3).mono fun e W' ⟨he, bel⟩ => ?_
  subst he
  exact ⟨_, rfl, _, _, _, [], _, [], hW', trodAll_mk1 (shut_bool Try.underlying4 _), (trodAll_cons_mk (Below.trod laidOut (by kernel_rfl) (of_decide_eq_true (by kernel_rfl)) k0 bel lt0) (trodAll_cons_mk (shut_int Try.underlying3 w1) (trodAll_cons_mk (shut_int Try.underlying3 w2) (trodAll_cons_mk (shut_int Try.underlying22 w3) trodAll_mk0)))), rfl, bel.frame _, fun h => by cases h⟩

theorem over : Rows.verbFencesRow.holds Try.pinned (OpenSpec.ofChange Rows.verbFencesSpec) :=
  OpenClaim.holds_of_wide 6 Try.f6 rfl rfl rfl rfl rfl rfl rfl ⟨rfl, rfl, rfl, rfl, rfl⟩ rfl rfl rfl rfl rfl (by kernel_rfl) Try.func6 (by kernel_rfl)
    (of_decide_eq_true (by kernel_rfl)) (by unfold Func.isWrapper; first | (rw [if_pos (by decide +kernel)]; kernel_rfl) | (rw [if_neg (by decide +kernel)]; exact ⟨rfl, rfl⟩))
    (fun os started H enc _ => lifted os started H enc)

/-- ████ THE STATEMENT ████ -/
theorem proved : Rows.VerbFencesSaid := over
end Go.Proofs.Ytkkeamlpfpcbfaa.verbFences
