/-
  For every input MemnodeNew returns true, and each argument reads afterwards as before: package memnode keeps the document here. No condition.
-/
import Derived.Test.YtgjchfhgpfogjaaRows
import Derived.Test.YtgjchfhgpfogjaaNk
import Derived.WalkKit
import Derived.ProofKit
import Derived.OpenShut
import Derived.ShutString
import Derived.ChangeOld
import Derived.Below
namespace Go.Proofs.Ytgjchfhgpfogjaa.memnodeNew
open Go.ChangeShapes Go.WideShapes Go.ChangeAt Go.RowKit Ga Na Nb Nc Nd_ Nk
set_option linter.unusedSimpArgs false
open Go.ChangeMaps (open_string shut_string)
set_option linter.unusedVariables false      -- a walk need not use every 'w<i>' (that an integer argument fits its kind)

theorem own : ownKnob Try.prog.godebug = none := by kernel_rfl

set_option maxRecDepth 100000 in
set_option maxHeartbeats 1000000 in
theorem walk (a0 : Int) (w0 : (Lit.int .i64 a0).wf = true) (w : World) :
    Calls Try.prog 4 #[.int .i64 a0] w fun e w' => e = .returned (.bool true) ∧ Below w.heap.size w w' := by
  have hwf := bounds_i64 w0
  have C0 := pick_any a0 3 w (by decide) (by decide) (by omega) (by omega)
  have hr : -9223372036854775808 ≤ a0.tmod 300 ∧ a0.tmod 300 ≤ 9223372036854775807 := by
    rw [Int.tmod_eq_emod]
    split <;> omega
  go_enter Try.func4, Try.ntmps4
  go_upto_region 1 with fail
  go_cut [14] (fun s14 wx => wx = w ∧ ∃ t : Bool, s14 = .bool t)
  case first =>
    go_wp2_with (first | (go_at_call 8; refine C0.mono ?_; rintro e w' ⟨rfl, rfl⟩))
    all_goals go_meet
    all_goals exact ⟨rfl, _, rfl⟩
  case rest =>
  obtain ⟨rfl, t, rfl⟩ := hcut
  clear C0
  go_upto_if 14 with fail
  go_cut [0] (fun s0 wx => wx = wc ∧ ∃ x : Int, s0 = .int .i64 x ∧ -9223372036854775808 ≤ x ∧ x ≤ 9223372036854775807)
  case first =>
    cases t with
    | true =>
      go_wp2
      all_goals go_meet
      all_goals exact ⟨rfl, _, rfl, hr.1, hr.2⟩
    | false =>
      go_wp2
      all_goals go_meet
      all_goals exact ⟨rfl, _, rfl, hwf.1, hwf.2⟩
  case rest =>
    obtain ⟨rfl, x, rfl, hx0, hx1⟩ := hcut
    clear hr
    by_cases hx : 1 ≤ x ∧ x ≤ 256
    · obtain ⟨L, rfl⟩ : ∃ L : Nat, x = L := ⟨x.toNat, by omega⟩
      go_wp2_with fail
      refine (new_ok L wc (by omega) (by omega)).mono ?_
      rintro e w1 ⟨b, g, rfl, hb, hg, HN, HB⟩
      obtain ⟨n, hn⟩ : ∃ n, 8 * L = n := ⟨_, rfl⟩
      rw [hn] at HN
      have H8 : Lk ((L : Int) * 8 = ((n : Nat) : Int)) := ⟨by omega⟩
      have hn8 : 8 ≤ n := by omega
      have hn2 : n ≤ 2048 := by omega
      have HL : Lk (8 * L = n) := ⟨hn⟩
      clear hn hx0 hx1 hwf w0
      go_wp2_with fail
      refine (awake_any w1).mono ?_
      rintro e w2 ⟨rfl, hB2⟩
      have HN2 : Lk (PN w2 b g n n (List.replicate n 0) true) := ⟨HN.out.keep (hB2.block b HN.out.size) (hB2.block g HN.out.row.size)⟩
      have HB2 : Lk (Below wc.heap.size wc w2) := ⟨HB.out.trans (hB2.mono HB.out.size)⟩
      clear HN HB hB2
      go_wp2_with fail
      rw [H8.out]
      refine (read_ok b g n n _ 0 n w2 HN2 (by omega) (by omega) (by omega)).mono ?_
      rintro e w3 ⟨g3, cap3, rfl, HG3, HR3, hB3⟩
      have HN3 : Lk (PN w3 b g n n (List.replicate n 0) true) := ⟨HN2.out.keep (hB3.out.block b HN2.out.size) (hB3.out.block g HN2.out.row.size)⟩
      have HB3 : Lk (Below wc.heap.size wc w3) := ⟨HB2.out.trans (hB3.out.mono HB2.out.size)⟩
      have HR : Lk (Row w3 g3 n cap3 (List.replicate n 0)) := ⟨by have := HR3.out; rwa [List.drop_zero, List.take_of_length_le (by simp)] at this⟩
      clear HN2 HB2 HR3 hB3
      go_wp2_with fail
      go_loop [7] (fun i => ∃ k : Nat, k ≤ n ∧ i = .int .i64 k) (fun i => n - (intOf i).toNat)
      case atStart => exact ⟨0, Nat.zero_le _, rfl⟩
      case round =>
        obtain ⟨k, hk, rfl⟩ := hrel
        by_cases hlt : k < n
        · have hc := HR.out.cell hlt
          rw [show (List.replicate n 0).getD k 0 = 0 by simp [hlt]] at hc
          go_wp2
          go_round
          case rel => exact ⟨k + 1, by omega, by go_num⟩
          case measure => simp [intOf]; omega
        · obtain rfl : n = k := by omega
          have C := boot_any b g n n _ true w3 HN3 (by omega) (by omega)
          rw [show (List.replicate n 0).getD 1 0 = 0 by rw [List.getD_eq_getElem?_getD, List.getElem?_replicate]; split <;> rfl] at C
          go_wp2_with (first | (go_at_call 14; refine C.mono ?_; rintro e w' ⟨rfl, rfl⟩))
          · go_ret
            exact ⟨rfl, HB3.out⟩
          · exfalso
            have := H8.out
            omega
    · go_wp2_with fail
      refine (new_no x wc (by omega)).mono ?_
      rintro e w' ⟨rfl, rfl⟩
      have C := awake_any wc
      by_cases h1 : x < 1
      · go_wp2_with (first | (go_at_call 10; refine C.mono ?_; rintro e w' ⟨rfl, hB⟩))
        go_ret
        exact ⟨rfl, by assumption⟩
      · have h2 : 256 < x := by omega
        go_wp2_with (first | (go_at_call 10; refine C.mono ?_; rintro e w' ⟨rfl, hB⟩))
        go_ret
        exact ⟨rfl, by assumption⟩

set_option maxRecDepth 100000 in
theorem lifted (os : Os) (started : os.Started) (H : Type) (enc : TypeId × Value → H) :
    ReturnsInHanded {} Try.checked os 4 .any (Rows.memnodeNewSpec.pre6 enc Try.prog Try.f4 Rows.memnodeNewRow.domain false) (Rows.memnodeNewSpec.post enc Try.prog Try.f4 false true false false) := by
  refine returnsInHanded_of_change (C := Try.checked) own started (by kernel_rfl) Try.func4
    (ChangeSpec.witness6 (enc := enc) (C := Try.checked) false ⟨#[], #[.int .i64 0], []⟩ 8 (by kernel_rfl) (by kernel_rfl) (by kernel_rfl) (by kernel_rfl)) ?_
  intro W base args ds gs before hval0 hW hcnd _
  have hval : ∀ (j : Nat) t v, Try.f4.params[j]? = some t → args[j]? = some v → Value.okWide Try.prog W .any base t v := hval0
  have hW' := hW
  obtain ⟨p, q, hA0, hV, rfl, hfz, hnd⟩ := hW
  have hA : DataW.TrodAll enc Try.prog W 0 (fun _ => true) true Try.f4.params.toList args.toList ds p := hA0
  rw [Try.params4] at hA hval
  obtain ⟨v0, vs0, d0, ds0, p0, q0, hargs, rfl, rfl, h0, r0⟩ := trodAll_cons hA
  obtain ⟨rfl, rfl, rfl⟩ := trodAll_nil r0
  obtain rfl : args = #[v0] := by cases args; simp_all
  obtain ⟨rfl, rfl⟩ := trodVars_none hV
  obtain ⟨a0, rfl, rfl, rfl, w0⟩ := open_int Try.underlying3 (hval 0 3 v0 rfl rfl) h0
  clear hA0 hval0
  simp only [List.append_nil] at hW'
  refine (walk a0 w0 W).mono fun e W' ⟨he, bel⟩ => ?_
  subst he
  exact ⟨_, rfl, _, _, _, [], _, [], hW', trodAll_mk1 (shut_bool Try.underlying4 _), (trodAll_cons_mk (shut_int Try.underlying3 w0) trodAll_mk0), rfl, bel.frame _, fun h => by cases h⟩

theorem over : Rows.memnodeNewRow.holds Try.pinned (OpenSpec.ofChange Rows.memnodeNewSpec) :=
  OpenClaim.holds_of_wide 4 Try.f4 rfl rfl rfl rfl rfl rfl rfl ⟨rfl, rfl, rfl, rfl, rfl⟩ rfl rfl rfl rfl rfl (by kernel_rfl) Try.func4 (by kernel_rfl)
    (of_decide_eq_true (by kernel_rfl)) (by unfold Func.isWrapper; first | (rw [if_pos (by decide +kernel)]; kernel_rfl) | (rw [if_neg (by decide +kernel)]; exact ⟨rfl, rfl⟩))
    (fun os started H enc _ => lifted os started H enc)

/-- ████ THE STATEMENT ████ -/
theorem proved : Rows.MemnodeNewSaid :=
  over
end Go.Proofs.Ytgjchfhgpfogjaa.memnodeNew
