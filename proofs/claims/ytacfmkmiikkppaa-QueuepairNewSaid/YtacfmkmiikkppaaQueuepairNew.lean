/-
  For every input QueuepairNew returns true, and each argument reads afterwards as before: package queuepair keeps the document here. No condition.
-/
import Derived.Test.YtacfmkmiikkppaaRows
import Derived.Test.YtacfmkmiikkppaaTj
import Derived.WalkKit
import Derived.ProofKit
import Derived.OpenShut
import Derived.ShutString
import Derived.ChangeOld
import Derived.Below
namespace Go.Proofs.Ytacfmkmiikkppaa.queuepairNew
open Go.ChangeShapes Go.WideShapes Go.ChangeAt Go.RowKit Ga Gb Na Nb Nc Nd_ Va Ve Ta Tb Tc Td Te Tf Tg Th Ti Tj
set_option linter.unusedSimpArgs false
set_option linter.unusedVariables false

theorem own : ownKnob Try.prog.godebug = none := by kernel_rfl
theorem laidOut : laidOutB Try.prog = true := of_decide_eq_true (by kernel_rfl)

set_option maxRecDepth 100000 in
set_option maxHeartbeats 4000000 in
theorem walk (a0 : Int) (a1 : Int) (a2 : Int) (a3 : Bool) (w : World) (w0 : (Lit.int .i64 a0).wf = true) (w1 : (Lit.int .i64 a1).wf = true) (w2 : (Lit.int .i64 a2).wf = true) :
    Calls Try.prog 4 #[.int .i64 a0, .int .i64 a1, .int .i64 a2, .bool a3] w fun e w' => e = .returned (.bool true) ∧ Below w.heap.size w w' := by
  have hw0 := bounds_i64 w0
  have hw1 := bounds_i64 w1
  have hw2 := bounds_i64 w2
  have C0 := pick_any a0 9 w (by decide) (by decide) (by omega) (by omega)
  have C1 := pick_any a1 210 w (by decide) (by decide) (by omega) (by omega)
  have C2 := pick_any a2 8 w (by decide) (by decide) (by omega) (by omega)
  have p0 := pk_lt a0 9 (by omega)
  have p1 := pk_lt a1 210 (by omega)
  have p2 := pk_lt a2 8 (by omega)
  generalize pk a0 9 = k0 at *
  generalize pk a1 210 = k1 at *
  generalize pk a2 8 = k2 at *
  go_enter Try.func4, Try.ntmps4
  go_upto_if 12 with fail
  go_cut [0, 1, 2] (fun s0 s1 s2 wx => wx = w ∧ ∃ x y z : Int, s0 = .int .i64 x ∧ s1 = .int .i64 y ∧ s2 = .int .i64 z)
  case first =>
    cases a3 with
    | true =>
      go_wp2_with (first
        | (go_at_call 13; (with_reducible refine C0.mono ?_); rintro e w' ⟨rfl, rfl⟩)
        | (go_at_call 13; (with_reducible refine C1.mono ?_); rintro e w' ⟨rfl, rfl⟩)
        | (go_at_call 13; (with_reducible refine C2.mono ?_); rintro e w' ⟨rfl, rfl⟩))
      go_meet
      exact ⟨rfl, _, _, _, rfl, rfl, rfl⟩
    | false =>
      go_wp2
      go_meet
      exact ⟨rfl, _, _, _, rfl, rfl, rfl⟩
  case rest =>
  obtain ⟨rfl, x, y, z, rfl, rfl, rfl⟩ := hcut
  clear C0 C1 C2 p0 p1 p2 hw0 hw1 hw2 w0 w1 w2
  have CA := Lk.mk (fun W => awake_any W)
  by_cases x0 : x < 0
  · have C := new_no x y z wc (by unfold newC; rw [if_pos (by omega)]; decide)
    have hv : newC x y z = 1 := by unfold newC; rw [if_pos (by omega)]
    rw [hv] at C
    go_wp2_with (first
      | (go_at_call 14; refine C.mono ?_; rintro e w' ⟨rfl, rfl⟩)
      | (go_at_call 9; refine (CA.out _).mono ?_; rintro e w' ⟨rfl, HB⟩))
    go_ret
    exact ⟨rfl, HB.out⟩
  by_cases x1 : 5 < x
  · have C := new_no x y z wc (by unfold newC; rw [if_pos (by omega)]; decide)
    have hv : newC x y z = 1 := by unfold newC; rw [if_pos (by omega)]
    rw [hv] at C
    go_wp2_with (first
      | (go_at_call 14; refine C.mono ?_; rintro e w' ⟨rfl, rfl⟩)
      | (go_at_call 9; refine (CA.out _).mono ?_; rintro e w' ⟨rfl, HB⟩))
    go_ret
    exact ⟨rfl, HB.out⟩
  by_cases hbad : y < 0 ∨ 59 < y ∨ z < 0 ∨ 4 < z
  · have C := new_no x y z wc (by unfold newC; rw [if_neg (by omega), if_pos hbad]; decide)
    have hv : newC x y z = 2 := by unfold newC; rw [if_neg (by omega), if_pos hbad]
    rw [hv] at C
    by_cases y0 : y < 0
    · go_wp2_with (first
        | (go_at_call 14; refine C.mono ?_; rintro e w' ⟨rfl, rfl⟩)
        | (go_at_call 9; refine (CA.out _).mono ?_; rintro e w' ⟨rfl, HB⟩))
      go_ret
      exact ⟨rfl, HB.out⟩
    by_cases y1 : 59 < y
    · go_wp2_with (first
        | (go_at_call 14; refine C.mono ?_; rintro e w' ⟨rfl, rfl⟩)
        | (go_at_call 9; refine (CA.out _).mono ?_; rintro e w' ⟨rfl, HB⟩))
      go_ret
      exact ⟨rfl, HB.out⟩
    by_cases z0 : z < 0
    · go_wp2_with (first
        | (go_at_call 14; refine C.mono ?_; rintro e w' ⟨rfl, rfl⟩)
        | (go_at_call 9; refine (CA.out _).mono ?_; rintro e w' ⟨rfl, HB⟩))
      go_ret
      exact ⟨rfl, HB.out⟩
    · have z1 : 4 < z := by omega
      go_wp2_with (first
        | (go_at_call 14; refine C.mono ?_; rintro e w' ⟨rfl, rfl⟩)
        | (go_at_call 9; refine (CA.out _).mono ?_; rintro e w' ⟨rfl, HB⟩))
      go_ret
      exact ⟨rfl, HB.out⟩
  · have y0 : ¬ y < 0 := by omega
    have y1 : ¬ 59 < y := by omega
    have z0 : ¬ z < 0 := by omega
    have z1 : ¬ 4 < z := by omega
    have C := new_ok x y z wc (by omega) (by omega) (by omega)
    clear hbad
    go_upto_region 9 with (first
      | (go_at_call 14; refine C.mono ?_; rintro e w' ⟨rfl, HP, HB0⟩))
    have CP := Lk.mk (fun W (hb : Below w'.heap.size w' W) => Lk.mk (HP.out.below hb))
    have CC := Lk.mk (fun W (hb : Below w'.heap.size w' W) => client_any _ _ _ _ _ _ _ _ _ _ _ W (CP.out W hb))
    have CI := Lk.mk (fun W (hb : Below w'.heap.size w' W) => inc_any _ _ _ _ _ _ _ _ _ _ _ W (CP.out W hb))
    have CN := Lk.mk (fun W (hb : Below w'.heap.size w' W) => node_any _ _ _ _ _ _ _ _ _ _ _ W (CP.out W hb))
    have CQ := Lk.mk (fun W (hb : Below w'.heap.size w' W) => pending_any _ _ _ _ _ _ _ _ _ _ _ W (CP.out W hb))
    clear CP HP
    go_wp2_with (first
      | (go_at_call 9; refine (CA.out _).mono ?_; rintro e w2 ⟨rfl, HB⟩)
      | (go_at_call 15; refine (CC.out _ HB.out).mono ?_; rintro e w3 ⟨rfl, rfl⟩)
      | (go_at_call 16; refine (CI.out _ HB.out).mono ?_; rintro e w3 ⟨rfl, rfl⟩)
      | (go_at_call 17; refine (CN.out _ HB.out).mono ?_; rintro e w3 ⟨rfl, rfl⟩)
      | (go_at_call 18; refine (CQ.out _ HB.out).mono ?_; rintro e w3 ⟨rfl, rfl⟩))
    go_ret
    exact ⟨ret_bool (by simp), HB0.out.trans (HB.out.mono HB0.out.size)⟩

set_option maxRecDepth 100000 in
theorem lifted (os : Os) (started : os.Started) (H : Type) (enc : TypeId × Value → H) :
    ReturnsInHanded {} Try.checked os 4 .any (Rows.queuepairNewSpec.pre6 enc Try.prog Try.f4 Rows.queuepairNewRow.domain false) (Rows.queuepairNewSpec.post enc Try.prog Try.f4 false true false false) := by
  refine returnsInHanded_of_change (C := Try.checked) own started (by kernel_rfl) Try.func4
    (ChangeSpec.witness6 (enc := enc) (C := Try.checked) false ⟨#[], #[.int .i64 0, .int .i64 0, .int .i64 0, .bool false], []⟩ 8 (by kernel_rfl) (by kernel_rfl) (by kernel_rfl) (by kernel_rfl)) ?_
  intro W base args ds gs before hval0 hW hcnd _
  have hval : ∀ (j : Nat) t v, Try.f4.params[j]? = some t → args[j]? = some v → Value.okWide Try.prog W .any base t v := hval0
  have hW' := hW
  obtain ⟨p, q, hA0, hV, rfl, hfz, hnd⟩ := hW
  have hA : DataW.TrodAll enc Try.prog W 0 (fun _ => true) true Try.f4.params.toList args.toList ds p := hA0
  rw [Try.params4] at hA hval
  obtain ⟨v0, vs0, d0, ds0, p0, q0, hargs, rfl, rfl, h0, r0⟩ := trodAll_cons hA
  obtain ⟨v1, vs1, d1, ds1, p1, q1, rfl, rfl, rfl, h1, r1⟩ := trodAll_cons r0
  obtain ⟨v2, vs2, d2, ds2, p2, q2, rfl, rfl, rfl, h2, r2⟩ := trodAll_cons r1
  obtain ⟨v3, vs3, d3, ds3, p3, q3, rfl, rfl, rfl, h3, r3⟩ := trodAll_cons r2
  obtain ⟨rfl, rfl, rfl⟩ := trodAll_nil r3
  obtain rfl : args = #[v0, v1, v2, v3] := by cases args; simp_all
  obtain ⟨rfl, rfl⟩ := trodVars_none hV
  obtain ⟨a0, rfl, rfl, rfl, w0⟩ := open_int Try.underlying3 (hval 0 3 v0 rfl rfl) h0
  obtain ⟨a1, rfl, rfl, rfl, w1⟩ := open_int Try.underlying3 (hval 1 3 v1 rfl rfl) h1
  obtain ⟨a2, rfl, rfl, rfl, w2⟩ := open_int Try.underlying3 (hval 2 3 v2 rfl rfl) h2
  obtain ⟨a3, rfl, rfl, rfl⟩ := open_bool Try.underlying4 (hval 3 4 v3 rfl rfl) h3
  clear hA0 hval0
  refine (walk a0 a1 a2 a3 W w0 w1 w2).mono fun e W' ⟨he, bel⟩ => ?_
  subst he
  exact ⟨_, rfl, _, _, _, [], _, [], hW', trodAll_mk1 (shut_bool Try.underlying4 _), (trodAll_cons_mk (shut_int Try.underlying3 w0) (trodAll_cons_mk (shut_int Try.underlying3 w1) (trodAll_cons_mk (shut_int Try.underlying3 w2) (trodAll_cons_mk (shut_bool Try.underlying4 _) trodAll_mk0)))), rfl, bel.frame _, fun h => by cases h⟩

theorem over : Rows.queuepairNewRow.holds Try.pinned (OpenSpec.ofChange Rows.queuepairNewSpec) :=
  OpenClaim.holds_of_wide 4 Try.f4 rfl rfl rfl rfl rfl rfl rfl ⟨rfl, rfl, rfl, rfl, rfl⟩ rfl rfl rfl rfl rfl (by kernel_rfl) Try.func4 (by kernel_rfl)
    (of_decide_eq_true (by kernel_rfl)) (by unfold Func.isWrapper; first | (rw [if_pos (by decide +kernel)]; kernel_rfl) | (rw [if_neg (by decide +kernel)]; exact ⟨rfl, rfl⟩))
    (fun os started H enc _ => lifted os started H enc)

/-- ████ THE STATEMENT ████ -/
theorem proved : Rows.QueuepairNewSaid := over
end Go.Proofs.Ytacfmkmiikkppaa.queuepairNew
