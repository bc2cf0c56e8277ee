/-
  For every input WordFieldsBack returns true, and each argument reads afterwards as before: package word keeps the document here. No condition.
-/
import Derived.Test.YtkdcencnakaaaaaRows
import Derived.Test.YtkdcencnakaaaaaWf
import Derived.WalkKit
import Derived.ProofKit
import Derived.OpenShut
namespace Go.Proofs.Ytkdcencnakaaaaa.wordFieldsBack
open Go.ChangeShapes Go.WideShapes Go.ChangeAt Go.RowKit Wa Wb Wc Wd We Wf
set_option linter.unusedVariables false      -- a walk need not use every 'w<i>' (that an integer argument fits its kind)

theorem own : ownKnob Try.prog.godebug = none := by kernel_rfl

set_option maxRecDepth 100000 in
set_option maxHeartbeats 1000000 in
theorem walk (a0 : Int) (a1 : Int) (a2 : Int) (a3 : Int) (a4 : Int) (a5 : Int) (w0 : (Lit.int .u64 a0).wf = true) (w1 : (Lit.int .i64 a1).wf = true) (w2 : (Lit.int .i64 a2).wf = true) (w3 : (Lit.int .u64 a3).wf = true) (w4 : (Lit.int .i64 a4).wf = true) (w5 : (Lit.int .i64 a5).wf = true) (w : World) :
    Calls Try.prog 4 #[.int .u64 a0, .int .i64 a1, .int .i64 a2, .int .u64 a3, .int .i64 a4, .int .i64 a5] w fun e w' => e = .returned (.bool true) ∧ Grown w w' := by
  have b0 := wf_u64 w0
  have b0l := b0.1
  have b0r := b0.2
  clear b0
  have b3 := wf_u64 w3
  have b3l := b3.1
  have b3r := b3.2
  clear b3
  have b1 := wf_i64 w1
  have b1l := b1.1
  have b1r := b1.2
  clear b1
  have b2 := wf_i64 w2
  have b2l := b2.1
  have b2r := b2.2
  clear b2
  have b4 := wf_i64 w4
  have b4l := b4.1
  have b4r := b4.2
  clear b4
  have pA := pickV_range a1 64 (by decide)
  have pAl := pA.1
  have pAr := pA.2
  clear pA
  have pN := pickV_range a2 64 (by decide)
  have pNl := pN.1
  have pNr := pN.2
  clear pN
  have pO := pickV_range a4 64 (by decide)
  have pOl := pO.1
  have pOr := pO.2
  clear pO
  by_cases h : pickV a1 64 ≤ 64 - (pickV a2 64 + 1)
  · have hk : 1 ≤ (pickV a2 64 + 1) ∧ (pickV a2 64 + 1) ≤ 64 ∧ 0 ≤ (pickV a1 64) ∧ (pickV a1 64) ≤ 64 - (pickV a2 64 + 1) := by omega
    have K := Lib.hid hk
    clear hk
    by_cases hv : a3 ≤ 2 ^ (pickV a2 64 + 1).toNat - 1
    · obtain ⟨q1, q2, q3, q4, q5, q6, q7, q8⟩ := set_facts b0l b0r K.out b3l hv
      by_cases ho : (pickV a4 64) < (pickV a1 64) ∨ (pickV a1 64) + (pickV a2 64 + 1) ≤ (pickV a4 64)
      · have q9 := set_other (o := (pickV a4 64)) b0l K.out b3l hv (by omega) (by omega) ho
        rcases ho with ho | ho
        all_goals
          go_enter Try.func4, Try.ntmps4
          go_wp2_with (first
              | (go_at_call 15; refine (awake_any _).mono ?_; rintro e w' ⟨rfl, rfl⟩)
              | (go_at_call 16; refine (pick_any _ _ _ (by omega) (by omega) (by omega) (by omega)).mono ?_; rintro e w' ⟨rfl, rfl⟩)
              | (go_at_call 11; refine (field_any _ _ _ _ (by omega) (by omega)).mono ?_; rintro e w' ⟨rfl, m, rfl⟩)
              | (go_at_call 13; refine (setField_any _ _ _ _ _ (by omega) (by omega) (by omega)).mono ?_; rintro e w' ⟨rfl, m, rfl⟩))
          go_ret
          exact ⟨rfl, by repeat (first | exact Grown.refl _ | exact grown_drewN (Grown.refl _) _ | apply grown_drewN | apply Grown.drew | apply Grown.alloc)⟩

      · have ho1 : (pickV a1 64) ≤ (pickV a4 64) := by omega
        have ho2 : (pickV a4 64) < (pickV a1 64) + (pickV a2 64 + 1) := by omega
        clear ho
        go_enter Try.func4, Try.ntmps4
        go_wp2_with (first
            | (go_at_call 15; refine (awake_any _).mono ?_; rintro e w' ⟨rfl, rfl⟩)
            | (go_at_call 16; refine (pick_any _ _ _ (by omega) (by omega) (by omega) (by omega)).mono ?_; rintro e w' ⟨rfl, rfl⟩)
            | (go_at_call 11; refine (field_any _ _ _ _ (by omega) (by omega)).mono ?_; rintro e w' ⟨rfl, m, rfl⟩)
            | (go_at_call 13; refine (setField_any _ _ _ _ _ (by omega) (by omega) (by omega)).mono ?_; rintro e w' ⟨rfl, m, rfl⟩))
        go_ret
        exact ⟨rfl, by repeat (first | exact Grown.refl _ | exact grown_drewN (Grown.refl _) _ | apply grown_drewN | apply Grown.drew | apply Grown.alloc)⟩

    · have q1 : setE (pickV a1 64) (pickV a2 64 + 1) a3 = 2 := by rw [setE, if_pos K.out, if_neg hv]
      have q2 : setV a0 (pickV a1 64) (pickV a2 64 + 1) a3 = 0 := by rw [setV, if_pos K.out, if_neg hv]
      clear hv
      go_enter Try.func4, Try.ntmps4
      go_wp2_with (first
          | (go_at_call 15; refine (awake_any _).mono ?_; rintro e w' ⟨rfl, rfl⟩)
          | (go_at_call 16; refine (pick_any _ _ _ (by omega) (by omega) (by omega) (by omega)).mono ?_; rintro e w' ⟨rfl, rfl⟩)
          | (go_at_call 11; refine (field_any _ _ _ _ (by omega) (by omega)).mono ?_; rintro e w' ⟨rfl, m, rfl⟩)
          | (go_at_call 13; refine (setField_any _ _ _ _ _ (by omega) (by omega) (by omega)).mono ?_; rintro e w' ⟨rfl, m, rfl⟩))
      go_ret
      exact ⟨ret_bool (by simp; omega), by repeat (first | exact Grown.refl _ | exact grown_drewN (Grown.refl _) _ | apply grown_drewN | apply Grown.drew | apply Grown.alloc)⟩

  · have hk : ¬ (1 ≤ (pickV a2 64 + 1) ∧ (pickV a2 64 + 1) ≤ 64 ∧ 0 ≤ (pickV a1 64) ∧ (pickV a1 64) ≤ 64 - (pickV a2 64 + 1)) := by omega
    have q1 : setE (pickV a1 64) (pickV a2 64 + 1) a3 = 1 := by rw [setE, if_neg hk]
    have q2 : setV a0 (pickV a1 64) (pickV a2 64 + 1) a3 = 0 := by rw [setV, if_neg hk]
    have h' : 64 - (pickV a2 64 + 1) < (pickV a1 64) := by omega
    clear hk h
    go_enter Try.func4, Try.ntmps4
    go_wp2_with (first
        | (go_at_call 15; refine (awake_any _).mono ?_; rintro e w' ⟨rfl, rfl⟩)
        | (go_at_call 16; refine (pick_any _ _ _ (by omega) (by omega) (by omega) (by omega)).mono ?_; rintro e w' ⟨rfl, rfl⟩)
        | (go_at_call 11; refine (field_any _ _ _ _ (by omega) (by omega)).mono ?_; rintro e w' ⟨rfl, m, rfl⟩)
        | (go_at_call 13; refine (setField_any _ _ _ _ _ (by omega) (by omega) (by omega)).mono ?_; rintro e w' ⟨rfl, m, rfl⟩))
    go_ret
    exact ⟨rfl, by repeat (first | exact Grown.refl _ | exact grown_drewN (Grown.refl _) _ | apply grown_drewN | apply Grown.drew | apply Grown.alloc)⟩

set_option maxRecDepth 100000 in
theorem lifted (os : Os) (started : os.Started) (H : Type) (enc : TypeId × Value → H) :
    ReturnsInHanded {} Try.checked os 4 .any (Rows.wordFieldsBackSpec.pre6 enc Try.prog Try.f4 Rows.wordFieldsBackRow.domain false) (Rows.wordFieldsBackSpec.post enc Try.prog Try.f4 false true false false) := by
  refine returnsInHanded_of_change (C := Try.checked) own started (by kernel_rfl) Try.func4
    (ChangeSpec.witness6 (enc := enc) (C := Try.checked) false ⟨#[], #[.int .u64 0, .int .i64 0, .int .i64 0, .int .u64 0, .int .i64 0, .int .i64 0], []⟩ 8 (by kernel_rfl) (by kernel_rfl) (by kernel_rfl) (by kernel_rfl)) ?_
  intro W base args ds gs before hval0 hW hcnd _
  have hval : ∀ (j : Nat) t v, Try.f4.params[j]? = some t → args[j]? = some v → Value.okWide Try.prog W .any base t v := hval0
  have hW' := hW
  obtain ⟨p, q, hA0, hV, rfl, hfz, hnd⟩ := hW
  have hA : DataW.TrodAll enc Try.prog W 0 (fun _ => true) true Try.f4.params.toList args.toList ds p := hA0
  rw [Try.params4] at hA hval
  obtain ⟨v0, vs0, d0, ds0, p0, q0, hargs, rfl, rfl, h0, r0⟩ := trodAll_cons hA
  obtain ⟨v1, vs1, d1, ds1, p1, q1, rfl, rfl, rfl, h1, r1⟩ := trodAll_cons r0
  obtain ⟨v2, vs2, d2, ds2, p2, q2, rfl, rfl, rfl, h2, r2⟩ := trodAll_cons r1
  obtain ⟨v3, vs3, d3, ds3, p3, q3, rfl, rfl, rfl, h3, r3⟩ := trodAll_cons r2
  obtain ⟨v4, vs4, d4, ds4, p4, q4, rfl, rfl, rfl, h4, r4⟩ := trodAll_cons r3
  obtain ⟨v5, vs5, d5, ds5, p5, q5, rfl, rfl, rfl, h5, r5⟩ := trodAll_cons r4
  obtain ⟨rfl, rfl, rfl⟩ := trodAll_nil r5
  obtain rfl : args = #[v0, v1, v2, v3, v4, v5] := by cases args; simp_all
  obtain ⟨rfl, rfl⟩ := trodVars_none hV
  obtain ⟨a0, rfl, rfl, rfl, w0⟩ := open_int Try.underlying22 (hval 0 22 v0 rfl rfl) h0
  obtain ⟨a1, rfl, rfl, rfl, w1⟩ := open_int Try.underlying3 (hval 1 3 v1 rfl rfl) h1
  obtain ⟨a2, rfl, rfl, rfl, w2⟩ := open_int Try.underlying3 (hval 2 3 v2 rfl rfl) h2
  obtain ⟨a3, rfl, rfl, rfl, w3⟩ := open_int Try.underlying22 (hval 3 22 v3 rfl rfl) h3
  obtain ⟨a4, rfl, rfl, rfl, w4⟩ := open_int Try.underlying3 (hval 4 3 v4 rfl rfl) h4
  obtain ⟨a5, rfl, rfl, rfl, w5⟩ := open_int Try.underlying3 (hval 5 3 v5 rfl rfl) h5
  clear hA0 hval0
  simp only [List.append_nil] at hW'
  refine (walk a0 a1 a2 a3 a4 a5 w0 w1 w2 w3 w4 w5 W).mono fun e W' ⟨he, hg⟩ => ?_
  subst he
  exact ⟨_, rfl, post_of_same (pa := []) (pv := []) hW' (fun _ _ _ => (trodAll_cons_mk (shut_bool Try.underlying4 _) trodAll_mk0)) (fun sp _ => (trodAll_cons_mk (shut_int Try.underlying22 w0) (trodAll_cons_mk (shut_int Try.underlying3 w1) (trodAll_cons_mk (shut_int Try.underlying3 w2) (trodAll_cons_mk (shut_int Try.underlying22 w3) (trodAll_cons_mk (shut_int Try.underlying3 w4) (trodAll_cons_mk (shut_int Try.underlying3 w5) trodAll_mk0))))))) (fun _ _ => rfl) rfl
    (hg.frame _) hg.2.1 (ok_one (by kernel_rfl) rfl (okWide_bool_mk Try.underlying4 _))⟩

theorem over : Rows.wordFieldsBackRow.holds Try.pinned (OpenSpec.ofChange Rows.wordFieldsBackSpec) :=
  OpenClaim.holds_of_wide 4 Try.f4 rfl rfl rfl rfl rfl rfl rfl ⟨rfl, rfl, rfl, rfl, rfl⟩ rfl rfl rfl rfl rfl (by kernel_rfl) Try.func4 (by kernel_rfl)
    (of_decide_eq_true (by kernel_rfl)) (by unfold Func.isWrapper; first | (rw [if_pos (by decide +kernel)]; kernel_rfl) | (rw [if_neg (by decide +kernel)]; exact ⟨rfl, rfl⟩))
    (fun os started H enc _ => lifted os started H enc)

/-- ████ THE STATEMENT ████ -/
theorem proved : Rows.WordFieldsBackSaid :=
  over
end Go.Proofs.Ytkdcencnakaaaaa.wordFieldsBack
