/-
  For every input LayoutApart returns true, and each argument reads afterwards as before: package layout keeps the document here. No condition.
-/
import Derived.Test.YtadeghfhjiohnaaRows
import Derived.Test.YtadeghfhjiohnaaLd
import Derived.WalkKit
import Derived.ProofKit
import Derived.OpenShut
import Derived.ShutString
import Derived.ChangeOld
import Derived.Below
namespace Go.Proofs.Ytadeghfhjiohnaa.layoutApart
open Go.ChangeShapes Go.WideShapes Go.ChangeAt Go.RowKit Ga Gb La Lb Lc Fa Ld
set_option linter.unusedSimpArgs false
set_option linter.unusedVariables false

theorem own : ownKnob Try.prog.godebug = none := by kernel_rfl
theorem laidOut : laidOutB Try.prog = true := of_decide_eq_true (by kernel_rfl)

set_option maxRecDepth 100000 in
set_option maxHeartbeats 4000000 in
theorem walk (w : World) :
    Calls Try.prog 4 #[] w fun e w' => e = .returned (.bool true) ∧ Below w.heap.size w w' := by
  have hzero := zero_marks
  go_enter Try.func4, Try.ntmps4
  go_upto_region 2 with (first | (go_at_call 30; refine (regions_any _).mono ?_; rintro e w1 ⟨v, rfl, HX⟩))
  obtain ⟨g, c, rfl, hg0, hg1, HR⟩ := Xr.rows HX.out
  have HRl := Lk.mk HR
  go_upto_region 3 with fail
  have HU := Lk.mk (Us.new w1)
  have HR1 := Lk.mk (HR.keep (Below.heap_alloc w1 (.cells no2048 33) g hg1))
  have HB1 := Lk.mk (HX.out.below.alloc HX.out.below.size (.cells no2048 33))
  have hgu : g ≠ w1.heap.size := by omega
  have hub : w.heap.size ≤ w1.heap.size := HX.out.below.size
  clear HX HR HRl
  generalize w1.alloc _ = w2 at *
  generalize w1.heap.size = ub at *
  obtain ⟨F, hrun, hF⟩ := all_run
  have HRun := Lk.mk hrun
  clear hrun
  go_wp2_with fail
  go_loopw [3] (fun s3 wr => ∃ i m : Nat, i ≤ 213 ∧ s3 = .int .i64 i ∧ Lk (run (rest i) m = some F) ∧ Lk (Us wr ub m) ∧ Lk (SR 35 2 wr g 213 c (fun i => ec (((E.getD i (0, 0)).1 : Int), ((E.getD i (0, 0)).2 : Int)))) ∧ Lk (Below w.heap.size w wr)) (fun i _ => 213 - (intOf i).toNat)
  case atStart => exact ⟨0, 0, by omega, rfl, HRun, HU, HR1, HB1⟩
  case round =>
    clear HRun HU HR1 HB1
    obtain ⟨i, m, hi, rfl, HRun, HU, HR1, HB1⟩ := hrel
    obtain ⟨wo, hwo⟩ : ∃ x, x = wr := ⟨_, rfl⟩
    subst hwo
    by_cases hlt : i < 213
    · have HA := Lk.mk (rest_at i hlt)
      have hc0 : wo.cell? ⟨g, i * 2, none⟩ = some (.int .i64 ((E.getD i (0, 0)).1 : Int)) := HR1.out.cell0 (c := i) hlt (by decide)
      have hc1 : wo.cell? ⟨g, i * 2 + 1, none⟩ = some (.int .i64 ((E.getD i (0, 0)).2 : Int)) := HR1.out.cell (c := i) (j := 1) hlt (by decide)
      have HS : Lk (run (List.range' ((E.getD i (0, 0)).1 + 0) ((E.getD i (0, 0)).2 - 0) ++ rest (i + 1)) m = some F) := ⟨by rw [← HRun.out, HA.out]; rfl⟩
      have HC0 := Lk.mk (fun (w' : World) (h : w'.heap[g]? = wo.heap[g]?) => (World.cell?_of_block (w := wo) (w' := w') (a := ⟨g, i * 2, none⟩) h).trans hc0)
      have HC1 := Lk.mk (fun (w' : World) (h : w'.heap[g]? = wo.heap[g]?) => (World.cell?_of_block (w := wo) (w' := w') (a := ⟨g, i * 2 + 1, none⟩) h).trans hc1)
      have hii : (i : Int) < 213 := by omega
      clear HRun HA hc0 hc1
      generalize (E.getD i (0, 0)).1 = a at *
      generalize (E.getD i (0, 0)).2 = n at *
      go_wp2_with fail
      go_loopw [4] (fun s4 wy => ∃ k m : Nat, k ≤ n ∧ s4 = .int .i64 k ∧ Lk (run (List.range' (a + k) (n - k) ++ rest (i + 1)) m = some F) ∧ Lk (Us wy ub m) ∧ Lk (wy.heap[g]? = wo.heap[g]?) ∧ Lk (Below w.heap.size w wy)) (fun i _ => n - (intOf i).toNat)
      case atStart => exact ⟨0, m, by omega, rfl, HS, HU, ⟨rfl⟩, HB1⟩
      case round =>
        clear HS HU HB1
        obtain ⟨k, m, hk, rfl, HS, HU, HG, HB⟩ := hrel
        have hc0 := HC0.out _ HG.out
        have hc1 := HC1.out _ HG.out
        by_cases hlk : k < n
        · have h1 := HS.out
          rw [range_at hlk, List.cons_append] at h1
          obtain ⟨ha, hm, hr⟩ := run_cons h1
          have HR2 := Lk.mk hr
          have hmc := HU.out.cell ha
          rw [hm] at hmc
          have hfr := HU.out.fr (a + k)
          have HU2 := Lk.mk (HU.out.set ha)
          have hki : (k : Int) < n := by omega
          have hak : (a : Int) + k < 2048 := by omega
          have hB2 := Lk.mk (HB.out.setCell (p := ⟨ub, a + k, none⟩) hub (.bool true))
          have hG2 : Lk ((wr.setCell ⟨ub, a + k, none⟩ (.bool true)).heap[g]? = wo.heap[g]?) := ⟨(Below.heap_setCell _ ⟨ub, a + k, none⟩ _ g hgu).trans HG.out⟩
          clear h1 hr hm
          go_wp2
          go_roundw
          case rel => exact ⟨k + 1, m ||| 2 ^ (a + k), by omega, by go_num, HR2, HU2, hG2, hB2⟩
          case measure => simp [intOf]; omega
        · obtain rfl : k = n := by omega
          have HR2 : Lk (run (rest (i + 1)) m = some F) := ⟨by have := HS.out; rw [Nat.sub_self] at this; exact this⟩
          have HRw := Lk.mk (HR1.out.keep HG.out)
          clear HS HC0 HC1 HG HR1
          go_wp2
          go_roundw
          case rel => exact ⟨i + 1, m, by omega, by go_num, HR2, HU, HRw, HB⟩
          case measure => simp [intOf]; omega
    · obtain rfl : i = 213 := by omega
      have hmF : m = F := by have := HRun.out; rw [rest_end] at this; simpa [run] using this
      have hcl := HU.out.cell (j := 2047) (by decide)
      rw [hmF, hF] at hcl
      have HCl := Lk.mk hcl
      have hub2 := HU.out.lt
      clear HRun HU HR1 hcl hmF hF
      go_wp2_with (first | (go_at_call 10; refine (awake_l _).mono ?_; rintro e w0 ⟨rfl, H0⟩; have hcl := (H0.out.cell (p := ⟨ub, 2047, none⟩) hub2).trans HCl.out))
      go_ret
      exact ⟨rfl, HB1.out.trans (H0.out.mono HB1.out.size)⟩

set_option maxRecDepth 100000 in
theorem lifted (os : Os) (started : os.Started) (H : Type) (enc : TypeId × Value → H) :
    ReturnsInHanded {} Try.checked os 4 .any (Rows.layoutApartSpec.pre6 enc Try.prog Try.f4 Rows.layoutApartRow.domain false) (Rows.layoutApartSpec.post enc Try.prog Try.f4 false true false false) := by
  refine returnsInHanded_of_change (C := Try.checked) own started (by kernel_rfl) Try.func4
    (ChangeSpec.witness6 (enc := enc) (C := Try.checked) false ⟨#[], #[], []⟩ 8 (by kernel_rfl) (by kernel_rfl) (by kernel_rfl) (by kernel_rfl)) ?_
  intro W base args ds gs before hval0 hW hcnd _
  have hval : ∀ (j : Nat) t v, Try.f4.params[j]? = some t → args[j]? = some v → Value.okWide Try.prog W .any base t v := hval0
  have hW' := hW
  obtain ⟨p, q, hA0, hV, rfl, hfz, hnd⟩ := hW
  have hA : DataW.TrodAll enc Try.prog W 0 (fun _ => true) true Try.f4.params.toList args.toList ds p := hA0
  rw [Try.params4] at hA hval
  obtain ⟨rfl, rfl, rfl⟩ := trodAll_none hA
  obtain ⟨rfl, rfl⟩ := trodVars_none hV
  clear hA0 hval0
  refine (walk W).mono fun e W' ⟨he, bel⟩ => ?_
  subst he
  exact ⟨_, rfl, _, _, _, [], _, [], hW', trodAll_mk1 (shut_bool Try.underlying4 _), trodAll_mk0, rfl, bel.frame _, fun h => by cases h⟩

theorem over : Rows.layoutApartRow.holds Try.pinned (OpenSpec.ofChange Rows.layoutApartSpec) :=
  OpenClaim.holds_of_wide 4 Try.f4 rfl rfl rfl rfl rfl rfl rfl ⟨rfl, rfl, rfl, rfl, rfl⟩ rfl rfl rfl rfl rfl (by kernel_rfl) Try.func4 (by kernel_rfl)
    (of_decide_eq_true (by kernel_rfl)) (by unfold Func.isWrapper; first | (rw [if_pos (by decide +kernel)]; kernel_rfl) | (rw [if_neg (by decide +kernel)]; exact ⟨rfl, rfl⟩))
    (fun os started H enc _ => lifted os started H enc)

/-- ████ THE STATEMENT ████ -/
theorem proved : Rows.LayoutApartSaid := over
end Go.Proofs.Ytadeghfhjiohnaa.layoutApart
