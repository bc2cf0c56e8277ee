/-
  For every input LayoutAddresses returns true, and each argument reads afterwards as before: package layout keeps the document here. No condition.
-/
import Derived.Test.YtadeghfhjiohnaaRows
import Derived.Test.YtadeghfhjiohnaaLb
import Derived.WalkKit
import Derived.ProofKit
import Derived.OpenShut
import Derived.ShutString
import Derived.ChangeOld
import Derived.Below
namespace Go.Proofs.Ytadeghfhjiohnaa.layoutAddresses
open Go.ChangeShapes Go.WideShapes Go.ChangeAt Go.RowKit Ga La Lb
set_option linter.unusedSimpArgs false
set_option linter.unusedVariables false

theorem own : ownKnob Try.prog.godebug = none := by kernel_rfl
theorem laidOut : laidOutB Try.prog = true := of_decide_eq_true (by kernel_rfl)

set_option maxRecDepth 100000 in
set_option maxHeartbeats 4000000 in
theorem walk (a0 : Int) (a1 : Int) (a2 : Int) (a3 : Int) (a4 : Int) (a5 : Bool) (w : World) (w0 : (Lit.int .i64 a0).wf = true) (w1 : (Lit.int .i64 a1).wf = true) (w2 : (Lit.int .i64 a2).wf = true) (w3 : (Lit.int .i64 a3).wf = true) (w4 : (Lit.int .i64 a4).wf = true) :
    Calls Try.prog 3 #[.int .i64 a0, .int .i64 a1, .int .i64 a2, .int .i64 a3, .int .i64 a4, .bool a5] w fun e w' => e = .returned (.bool true) ∧ Below w.heap.size w w' := by
  have hw0 := bounds_i64 w0
  have hw1 := bounds_i64 w1
  have hw2 := bounds_i64 w2
  have hw3 := bounds_i64 w3
  have hw4 := bounds_i64 w4
  have C1 := pick_any a0 9 w (by decide) (by decide) (by omega) (by omega)
  have C2 := pick_any a1 19 w (by decide) (by decide) (by omega) (by omega)
  have C3 := pick_any a2 270 w (by decide) (by decide) (by omega) (by omega)
  have C4 := pick_any a3 270 w (by decide) (by decide) (by omega) (by omega)
  have C5 := pick_any a4 8 w (by decide) (by decide) (by omega) (by omega)
  have p0 := pk_lt a0 9 (by omega)
  have p1 := pk_lt a1 19 (by omega)
  have p2 := pk_lt a2 270 (by omega)
  have p3 := pk_lt a3 270 (by omega)
  have p4 := pk_lt a4 8 (by omega)
  generalize pk a0 9 = k0 at *
  generalize pk a1 19 = k1 at *
  generalize pk a2 270 = k2 at *
  generalize pk a3 270 = k3 at *
  generalize pk a4 8 = k4 at *
  go_enter Try.func3, Try.ntmps3
  go_upto_if 18 with fail
  go_cut [0, 1, 2, 3, 4] (fun s0 s1 s2 s3 s4 wx => wx = w ∧ ∃ x y z u v : Int, s0 = .int .i64 x ∧ s1 = .int .i64 y ∧ s2 = .int .i64 z ∧ s3 = .int .i64 u ∧ s4 = .int .i64 v ∧ -9223372036854775808 ≤ u ∧ u ≤ 9223372036854775807)
  case first =>
    cases a5 with
    | true =>
      go_wp2_with (first
        | (go_at_call 7; (with_reducible refine C1.mono ?_); rintro e w' ⟨rfl, rfl⟩)
        | (go_at_call 7; (with_reducible refine C2.mono ?_); rintro e w' ⟨rfl, rfl⟩)
        | (go_at_call 7; (with_reducible refine C3.mono ?_); rintro e w' ⟨rfl, rfl⟩)
        | (go_at_call 7; (with_reducible refine C4.mono ?_); rintro e w' ⟨rfl, rfl⟩)
        | (go_at_call 7; (with_reducible refine C5.mono ?_); rintro e w' ⟨rfl, rfl⟩))
      go_meet
      exact ⟨rfl, _, _, _, _, _, rfl, rfl, rfl, rfl, rfl, by omega, by omega⟩
    | false =>
      go_wp2
      go_meet
      exact ⟨rfl, _, _, _, _, _, rfl, rfl, rfl, rfl, rfl, by omega, by omega⟩
  case rest =>
  obtain ⟨rfl, x, y, z, u, v, rfl, rfl, rfl, rfl, rfl, hu0, hu1⟩ := hcut
  have hzb := And.intro hu0 hu1
  clear C1 C2 C3 C4 C5 p0 p1 p2 p3 p4 hw0 hw1 hw2 hw3 hw4 w0 w1 w2 w3 w4
  clear hu0 hu1
  by_cases h1 : 1 ≤ u
  · by_cases h2 : u ≤ 256
    · have hW : Lk (wordsN u = u * 8) := ⟨if_pos ⟨h1, h2⟩⟩
      go_wp2_with (first
            | (go_at_call 10; refine (awake_l _).mono ?_; rintro e w0 ⟨rfl, H0⟩)
            | (go_at_call 8; refine (iv_any _ _).mono ?_; rintro e w' ⟨rfl, rfl⟩)
            | (go_at_call 9; refine (refIv_any _ _).mono ?_; rintro e w' ⟨rfl, rfl⟩)
            | (go_at_call 27; refine (inHeap_any _ _ _ hzb).mono ?_; rintro e w' ⟨rfl, rfl⟩)
            | (go_at_call 28; refine (refInHeap_any _ _ _).mono ?_; rintro e w' ⟨rfl, rfl⟩)
            | (go_at_call 29; refine (words_any _ _).mono ?_; rintro e w' ⟨rfl, rfl⟩)
            | (go_at_call 11; refine (door_any _ _).mono ?_; rintro e w1 ⟨rfl, H1⟩)
            | (go_at_call 12; refine (refDoor_any _ _).mono ?_; rintro e w' ⟨rfl, rfl⟩)
            | (go_at_call 13; refine (clock_any _ _).mono ?_; rintro e w2 ⟨rfl, H2⟩)
            | (go_at_call 14; refine (refClock_any _ _).mono ?_; rintro e w' ⟨rfl, rfl⟩)
            | (go_at_call 15; refine (lease_any _ _).mono ?_; rintro e w3 ⟨rfl, H3⟩)
            | (go_at_call 16; refine (refLeaseAt_any _ _).mono ?_; rintro e w' ⟨rfl, rfl⟩)
            | (go_at_call 17; refine (consensus_any _ _).mono ?_; rintro e w4 ⟨rfl, H4⟩)
            | (go_at_call 18; refine (refConsensusAt_any _ _).mono ?_; rintro e w' ⟨rfl, rfl⟩)
            | (go_at_call 19; refine (mark_any _ _).mono ?_; rintro e w5 ⟨rfl, H5⟩)
            | (go_at_call 20; refine (refMarkAt_any _ _).mono ?_; rintro e w' ⟨rfl, rfl⟩)
            | (go_at_call 21; refine (tag_any _ _).mono ?_; rintro e w6 ⟨rfl, H6⟩)
            | (go_at_call 22; refine (refTagAt_any _ _).mono ?_; rintro e w' ⟨rfl, rfl⟩)
            | (go_at_call 23; refine (body_any _ _).mono ?_; rintro e w7 ⟨rfl, H7⟩)
            | (go_at_call 24; refine (refBodyAt_any _ _).mono ?_; rintro e w' ⟨rfl, rfl⟩)
            | (go_at_call 25; refine (page_any _ _).mono ?_; rintro e w8 ⟨rfl, H8⟩)
            | (go_at_call 26; refine (refPageAt_any _ _).mono ?_; rintro e w' ⟨rfl, rfl⟩))
      go_ret
      exact ⟨ret_bool (by simp [hW.out]), ((thn (thn (thn (thn (thn (thn (thn (thn H0 H1) H2) H3) H4) H5) H6) H7) H8)).out⟩
    · have hW : Lk (wordsN u = 0) := ⟨if_neg (by omega)⟩
      go_wp2_with (first
            | (go_at_call 10; refine (awake_l _).mono ?_; rintro e w0 ⟨rfl, H0⟩)
            | (go_at_call 8; refine (iv_any _ _).mono ?_; rintro e w' ⟨rfl, rfl⟩)
            | (go_at_call 9; refine (refIv_any _ _).mono ?_; rintro e w' ⟨rfl, rfl⟩)
            | (go_at_call 27; refine (inHeap_any _ _ _ hzb).mono ?_; rintro e w' ⟨rfl, rfl⟩)
            | (go_at_call 28; refine (refInHeap_any _ _ _).mono ?_; rintro e w' ⟨rfl, rfl⟩)
            | (go_at_call 29; refine (words_any _ _).mono ?_; rintro e w' ⟨rfl, rfl⟩)
            | (go_at_call 11; refine (door_any _ _).mono ?_; rintro e w1 ⟨rfl, H1⟩)
            | (go_at_call 12; refine (refDoor_any _ _).mono ?_; rintro e w' ⟨rfl, rfl⟩)
            | (go_at_call 13; refine (clock_any _ _).mono ?_; rintro e w2 ⟨rfl, H2⟩)
            | (go_at_call 14; refine (refClock_any _ _).mono ?_; rintro e w' ⟨rfl, rfl⟩)
            | (go_at_call 15; refine (lease_any _ _).mono ?_; rintro e w3 ⟨rfl, H3⟩)
            | (go_at_call 16; refine (refLeaseAt_any _ _).mono ?_; rintro e w' ⟨rfl, rfl⟩)
            | (go_at_call 17; refine (consensus_any _ _).mono ?_; rintro e w4 ⟨rfl, H4⟩)
            | (go_at_call 18; refine (refConsensusAt_any _ _).mono ?_; rintro e w' ⟨rfl, rfl⟩)
            | (go_at_call 19; refine (mark_any _ _).mono ?_; rintro e w5 ⟨rfl, H5⟩)
            | (go_at_call 20; refine (refMarkAt_any _ _).mono ?_; rintro e w' ⟨rfl, rfl⟩)
            | (go_at_call 21; refine (tag_any _ _).mono ?_; rintro e w6 ⟨rfl, H6⟩)
            | (go_at_call 22; refine (refTagAt_any _ _).mono ?_; rintro e w' ⟨rfl, rfl⟩)
            | (go_at_call 23; refine (body_any _ _).mono ?_; rintro e w7 ⟨rfl, H7⟩)
            | (go_at_call 24; refine (refBodyAt_any _ _).mono ?_; rintro e w' ⟨rfl, rfl⟩)
            | (go_at_call 25; refine (page_any _ _).mono ?_; rintro e w8 ⟨rfl, H8⟩)
            | (go_at_call 26; refine (refPageAt_any _ _).mono ?_; rintro e w' ⟨rfl, rfl⟩))
      go_ret
      exact ⟨ret_bool (by simp [hW.out]), ((thn (thn (thn (thn (thn (thn (thn (thn H0 H1) H2) H3) H4) H5) H6) H7) H8)).out⟩
  · have hW : Lk (wordsN u = 0) := ⟨if_neg (by omega)⟩
    go_wp2_with (first
          | (go_at_call 10; refine (awake_l _).mono ?_; rintro e w0 ⟨rfl, H0⟩)
          | (go_at_call 8; refine (iv_any _ _).mono ?_; rintro e w' ⟨rfl, rfl⟩)
          | (go_at_call 9; refine (refIv_any _ _).mono ?_; rintro e w' ⟨rfl, rfl⟩)
          | (go_at_call 27; refine (inHeap_any _ _ _ hzb).mono ?_; rintro e w' ⟨rfl, rfl⟩)
          | (go_at_call 28; refine (refInHeap_any _ _ _).mono ?_; rintro e w' ⟨rfl, rfl⟩)
          | (go_at_call 29; refine (words_any _ _).mono ?_; rintro e w' ⟨rfl, rfl⟩)
          | (go_at_call 11; refine (door_any _ _).mono ?_; rintro e w1 ⟨rfl, H1⟩)
          | (go_at_call 12; refine (refDoor_any _ _).mono ?_; rintro e w' ⟨rfl, rfl⟩)
          | (go_at_call 13; refine (clock_any _ _).mono ?_; rintro e w2 ⟨rfl, H2⟩)
          | (go_at_call 14; refine (refClock_any _ _).mono ?_; rintro e w' ⟨rfl, rfl⟩)
          | (go_at_call 15; refine (lease_any _ _).mono ?_; rintro e w3 ⟨rfl, H3⟩)
          | (go_at_call 16; refine (refLeaseAt_any _ _).mono ?_; rintro e w' ⟨rfl, rfl⟩)
          | (go_at_call 17; refine (consensus_any _ _).mono ?_; rintro e w4 ⟨rfl, H4⟩)
          | (go_at_call 18; refine (refConsensusAt_any _ _).mono ?_; rintro e w' ⟨rfl, rfl⟩)
          | (go_at_call 19; refine (mark_any _ _).mono ?_; rintro e w5 ⟨rfl, H5⟩)
          | (go_at_call 20; refine (refMarkAt_any _ _).mono ?_; rintro e w' ⟨rfl, rfl⟩)
          | (go_at_call 21; refine (tag_any _ _).mono ?_; rintro e w6 ⟨rfl, H6⟩)
          | (go_at_call 22; refine (refTagAt_any _ _).mono ?_; rintro e w' ⟨rfl, rfl⟩)
          | (go_at_call 23; refine (body_any _ _).mono ?_; rintro e w7 ⟨rfl, H7⟩)
          | (go_at_call 24; refine (refBodyAt_any _ _).mono ?_; rintro e w' ⟨rfl, rfl⟩)
          | (go_at_call 25; refine (page_any _ _).mono ?_; rintro e w8 ⟨rfl, H8⟩)
          | (go_at_call 26; refine (refPageAt_any _ _).mono ?_; rintro e w' ⟨rfl, rfl⟩))
    go_ret
    exact ⟨ret_bool (by simp [hW.out]), ((thn (thn (thn (thn (thn (thn (thn (thn H0 H1) H2) H3) H4) H5) H6) H7) H8)).out⟩

set_option maxRecDepth 100000 in
theorem lifted (os : Os) (started : os.Started) (H : Type) (enc : TypeId × Value → H) :
    ReturnsInHanded {} Try.checked os 3 .any (Rows.layoutAddressesSpec.pre6 enc Try.prog Try.f3 Rows.layoutAddressesRow.domain false) (Rows.layoutAddressesSpec.post enc Try.prog Try.f3 false true false false) := by
  refine returnsInHanded_of_change (C := Try.checked) own started (by kernel_rfl) Try.func3
    (ChangeSpec.witness6 (enc := enc) (C := Try.checked) false ⟨#[], #[.int .i64 0, .int .i64 0, .int .i64 0, .int .i64 0, .int .i64 0, .bool false], []⟩ 8 (by kernel_rfl) (by kernel_rfl) (by kernel_rfl) (by kernel_rfl)) ?_
  intro W base args ds gs before hval0 hW hcnd _
  have hval : ∀ (j : Nat) t v, Try.f3.params[j]? = some t → args[j]? = some v → Value.okWide Try.prog W .any base t v := hval0
  have hW' := hW
  obtain ⟨p, q, hA0, hV, rfl, hfz, hnd⟩ := hW
  have hA : DataW.TrodAll enc Try.prog W 0 (fun _ => true) true Try.f3.params.toList args.toList ds p := hA0
  rw [Try.params3] at hA hval
  obtain ⟨v0, vs0, d0, ds0, p0, q0, hargs, rfl, rfl, h0, r0⟩ := trodAll_cons hA
  obtain ⟨v1, vs1, d1, ds1, p1, q1, rfl, rfl, rfl, h1, r1⟩ := trodAll_cons r0
  obtain ⟨v2, vs2, d2, ds2, p2, q2, rfl, rfl, rfl, h2, r2⟩ := trodAll_cons r1
  obtain ⟨v3, vs3, d3, ds3, p3, q3, rfl, rfl, rfl, h3, r3⟩ := trodAll_cons r2
  obtain ⟨v4, vs4, d4, ds4, p4, q4, rfl, rfl, rfl, h4, r4⟩ := trodAll_cons r3
  obtain ⟨v5, vs5, d5, ds5, p5, q5, rfl, rfl, rfl, h5, r5⟩ := trodAll_cons r4
  obtain ⟨rfl, rfl, rfl⟩ := trodAll_nil r5
  obtain rfl : args = #[v0, v1, v2, v3, v4, v5] := by cases args; simp_all
  obtain ⟨rfl, rfl⟩ := trodVars_none hV
  obtain ⟨a0, rfl, rfl, rfl, w0⟩ := open_int Try.underlying3 (hval 0 3 v0 rfl rfl) h0
  obtain ⟨a1, rfl, rfl, rfl, w1⟩ := open_int Try.underlying3 (hval 1 3 v1 rfl rfl) h1
  obtain ⟨a2, rfl, rfl, rfl, w2⟩ := open_int Try.underlying3 (hval 2 3 v2 rfl rfl) h2
  obtain ⟨a3, rfl, rfl, rfl, w3⟩ := open_int Try.underlying3 (hval 3 3 v3 rfl rfl) h3
  obtain ⟨a4, rfl, rfl, rfl, w4⟩ := open_int Try.underlying3 (hval 4 3 v4 rfl rfl) h4
  obtain ⟨a5, rfl, rfl, rfl⟩ := open_bool Try.underlying4 (hval 5 4 v5 rfl rfl) h5
  clear hA0 hval0
  refine (walk a0 a1 a2 a3 a4 a5 W w0 w1 w2 w3 w4).mono fun e W' ⟨he, bel⟩ => ?_
  subst he
  exact ⟨_, rfl, _, _, _, [], _, [], hW', trodAll_mk1 (shut_bool Try.underlying4 _), (trodAll_cons_mk (shut_int Try.underlying3 w0) (trodAll_cons_mk (shut_int Try.underlying3 w1) (trodAll_cons_mk (shut_int Try.underlying3 w2) (trodAll_cons_mk (shut_int Try.underlying3 w3) (trodAll_cons_mk (shut_int Try.underlying3 w4) (trodAll_cons_mk (shut_bool Try.underlying4 _) trodAll_mk0)))))), rfl, bel.frame _, fun h => by cases h⟩

theorem over : Rows.layoutAddressesRow.holds Try.pinned (OpenSpec.ofChange Rows.layoutAddressesSpec) :=
  OpenClaim.holds_of_wide 3 Try.f3 rfl rfl rfl rfl rfl rfl rfl ⟨rfl, rfl, rfl, rfl, rfl⟩ rfl rfl rfl rfl rfl (by kernel_rfl) Try.func3 (by kernel_rfl)
    (of_decide_eq_true (by kernel_rfl)) (by unfold Func.isWrapper; first | (rw [if_pos (by decide +kernel)]; kernel_rfl) | (rw [if_neg (by decide +kernel)]; exact ⟨rfl, rfl⟩))
    (fun os started H enc _ => lifted os started H enc)

/-- ████ THE STATEMENT ████ -/
theorem proved : Rows.LayoutAddressesSaid := over
end Go.Proofs.Ytadeghfhjiohnaa.layoutAddresses
