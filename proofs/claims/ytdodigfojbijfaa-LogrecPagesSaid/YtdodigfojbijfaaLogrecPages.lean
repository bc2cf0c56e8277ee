/-
  For every input LogrecPages returns true, and each argument reads afterwards as before: package logrec keeps the document here. No condition.
-/
import Derived.Test.YtdodigfojbijfaaRows
import Derived.Test.YtdodigfojbijfaaRq
import Derived.WalkKit
import Derived.ProofKit
import Derived.OpenShut
import Derived.ShutString
import Derived.ChangeOld
import Derived.Below
namespace Go.Proofs.Ytdodigfojbijfaa.logrecPages
open Go.ChangeShapes Go.WideShapes Go.ChangeAt Go.RowKit Ga Gb Ra Rb Rc Rd Re Rf Rg Rh Ri Rj Rk Rl Rm Rn Ro Rp Un
set_option linter.unusedSimpArgs false
set_option linter.unusedVariables false

theorem own : ownKnob Try.prog.godebug = none := by kernel_rfl
theorem laidOut : laidOutB Try.prog = true := of_decide_eq_true (by kernel_rfl)

set_option maxRecDepth 100000 in
set_option maxHeartbeats 2000000 in
theorem walk (a0 : Pg) (a1 : Int) (a2 : Int) (w : World) (w0 : a0.Wf) (w1 : (Lit.int .i64 a1).wf = true) (w2 : (Lit.int .i64 a2).wf = true) :
    Calls Try.prog 8 #[a0.val, .int .i64 a1, .int .i64 a2] w fun e w' => e = .returned (.bool true) ∧ Below w.heap.size w w' := by
  have hw1 := bounds_i64 w1
  have hw2 := bounds_i64 w2
  have HP := Lk.mk w0
  have hqw := Lk.mk (hpg_wf a1 200 (by decide))
  have CG := Lk.mk (fun W => page_any a1 200 W (by decide) hw1.1 hw1.2)
  have CA := Lk.mk awake_any
  have C6 := Lk.mk (fun w => pick_any a2 6 w (by decide) (by decide) hw2.1 hw2.2)
  have p6 := pk_lt a2 6 (by decide)
  have HB0 := Lk.mk (Bp.new w a0 31)
  have CL := Lk.mk (fun W => locked_any a0 a2 W w0)
  have CL' := Lk.mk (fun W => refLocked_any a0 a2 W w0)
  have CD := Lk.mk (fun W => applied_any a0 W w0)
  have CD' := Lk.mk (fun W => refApplied_any a0 W w0)
  have CDq := Lk.mk (fun W => applied_any (hpg a1 200) W hqw.out)
  have CLq := Lk.mk (fun W (c : Int) => locked_any (hpg a1 200) c W hqw.out)
  have hhd : (hpg a1 200).head % 256 = 0 ∧ 256 ≤ (hpg a1 200).head ∧ (hpg a1 200).head ≤ 1024 := by
    have h2 := pk_lt (a1.tdiv 64) 4 (by decide)
    unfold hpg; simp only; omega
  have HQv := Lk.mk (show (hpg a1 200).val = (hpg a1 200).val from rfl)
  generalize hpg a1 200 = q at *
  have e1 : Wb.nextE (q.head : Int) = 0 := by unfold Wb.nextE; rw [if_pos (by omega)]
  have e2 : appl q = (q.head + 256) :: q.data := by
    rw [appl, if_pos e1]; congr 1
    unfold Wb.nextV; rw [if_pos (by omega)]; omega
  have e3 : ∀ c : Int, 0 ≤ c ∧ c ≤ 5 → Wb.lockE (q.head : Int) c = 0 ∧ Wb.lockV (q.head : Int) c = q.head + (c + 1) := fun c hc => by
    unfold Wb.lockE Wb.lockV
    rw [if_pos hc, if_pos (by omega), if_pos ⟨hc, by omega⟩]; exact ⟨rfl, rfl⟩
  rw [e1, e2] at CDq
  have CLq := Lk.mk (fun W => CLq.out W (pk a2 6 : Int))
  obtain ⟨e4, e5⟩ := e3 (pk a2 6 : Int) (by omega)
  rw [e4, e5] at CLq
  clear e1 e2 e3 e4 e5 w0 w1 w2 HQv
  have e4 : True := trivial
  generalize pk a2 6 = k6 at *
  unfold Pg.arr at HB0
  unfold Pg.val at CL CL' CD CD' CDq CLq CG ⊢
  go_enter Try.func8, Try.ntmps8
  go_upto_region 2 with (first
    | (go_at_call 29; refine (CG.out _).mono ?_; rintro e w1 ⟨rfl, H1⟩))
  have HBq := Lk.mk (Bp.new w1 q 31)
  unfold Pg.arr at HBq
  have HBa := Lk.mk ((HB0.out.on H1.out).on (one_alloc w1 (.cells #[.int .i64 q.line, .int .u64 (q.head : Int), .int .u64 (q.a : Int), .int .u64 (q.b : Int), .int .u64 (q.c : Int), .int .u64 (q.d : Int), .int .u64 (q.e : Int), .int .u64 (q.f : Int), .int .u64 (q.g : Int)] 31)))
  have HBw := Lk.mk (btr (btr (one_alloc w (.cells #[.int .i64 a0.line, .int .u64 (a0.head : Int), .int .u64 (a0.a : Int), .int .u64 (a0.b : Int), .int .u64 (a0.c : Int), .int .u64 (a0.d : Int), .int .u64 (a0.e : Int), .int .u64 (a0.f : Int), .int .u64 (a0.g : Int)] 31)) H1.out) (one_alloc w1 (.cells #[.int .i64 q.line, .int .u64 (q.head : Int), .int .u64 (q.a : Int), .int .u64 (q.b : Int), .int .u64 (q.c : Int), .int .u64 (q.d : Int), .int .u64 (q.e : Int), .int .u64 (q.f : Int), .int .u64 (q.g : Int)] 31)))
  obtain ⟨g1, hg1⟩ : ∃ g1, w1.heap.size = g1 := ⟨_, rfl⟩
  rw [hg1] at HBq ⊢
  clear hg1 HB0 H1 CG
  generalize w1.alloc _ = W2 at *
  have HBa2 := HBa
  have HBq2 := HBq
  have HBw2 := HBw
  clear HBa HBq HBw
  obtain ⟨c0, c1, c2, c3, c4, c5, c6, c7, c8⟩ := HBa2.out
  go_upto_region 3 with (first
    | (go_at_call 30; with_reducible refine (CL.out _).mono ?_; rintro e W3 ⟨rfl, H3⟩))
  have HBa3 := Lk.mk (HBa2.out.on H3.out)
  have HBq3 := Lk.mk (HBq2.out.on H3.out)
  have HBw3 := Lk.mk (btr HBw2.out H3.out)
  clear c0 c1 c2 c3 c4 c5 c6 c7 c8 HBa2 HBq2 HBw2 H3
  obtain ⟨c0, c1, c2, c3, c4, c5, c6, c7, c8⟩ := HBa3.out
  go_upto_region 4 with (first
    | (go_at_call 31; with_reducible refine (CL'.out _).mono ?_; rintro e W4 ⟨rfl, H4⟩))
  have HBa4 := Lk.mk (HBa3.out.on H4.out)
  have HBq4 := Lk.mk (HBq3.out.on H4.out)
  have HBw4 := Lk.mk (btr HBw3.out H4.out)
  clear c0 c1 c2 c3 c4 c5 c6 c7 c8 HBa3 HBq3 HBw3 H4
  obtain ⟨c0, c1, c2, c3, c4, c5, c6, c7, c8⟩ := HBa4.out
  go_upto_region 5 with (first
    | (go_at_call 32; with_reducible refine (CD.out _).mono ?_; rintro e W5 ⟨v5, rfl, H5⟩))
  have HBa5 := Lk.mk (HBa4.out.on H5.out.below)
  have HBq5 := Lk.mk (HBq4.out.on H5.out.below)
  have HBw5 := Lk.mk (btr HBw4.out H5.out.below)
  clear c0 c1 c2 c3 c4 c5 c6 c7 c8 HBa4 HBq4 HBw4
  obtain ⟨c0, c1, c2, c3, c4, c5, c6, c7, c8⟩ := HBa5.out
  go_upto_region 6 with (first
    | (go_at_call 33; with_reducible refine (CD'.out _).mono ?_; rintro e W6 ⟨v6, rfl, H6⟩))
  have HBa6 := Lk.mk (HBa5.out.on H6.out.below)
  have HBq6 := Lk.mk (HBq5.out.on H6.out.below)
  have HBw6 := Lk.mk (btr HBw5.out H6.out.below)
  clear c0 c1 c2 c3 c4 c5 c6 c7 c8 HBa5 HBq5 HBw5
  have HV5 := Lk.mk (H5.out.on H6.out.below)
  have HV6 := H6
  clear H5 H6 CL CL' CD CD'
  obtain ⟨A5, c5, rfl, hc5, hc5', hL5⟩ := HV5.out.form
  obtain ⟨A6, c6, rfl, hc6, hc6', hL6⟩ := HV6.out.form
  have HL5 := Lk.mk hL5
  have HL6 := Lk.mk hL6
  have hla : (appl a0).length ≤ 8 := by unfold appl; split <;> simp [Pg.data]
  obtain ⟨la, hlae⟩ : ∃ la, (appl a0).length = la := ⟨_, rfl⟩
  have HLe := Lk.mk hlae
  rw [hlae] at hla hc5 hc6 ⊢
  clear hL5 hL6 HV5 HV6 hlae
  have CS := Lk.mk (fun (W : World) (hB : Below W6.heap.size W6 W) => sameWords_any A5 A6 la c5 la c6 (appl a0) (appl a0) W HLe.out HLe.out ⟨(HL5.out.below hB).more hB.size⟩ ⟨(HL6.out.below hB).more hB.size⟩ (by omega) (by omega))
  rw [show decide (appl a0 = appl a0) = true from by simp] at CS
  clear HL5 HL6
  go_upto_region 8 with (first
    | (go_at_call 11; refine (CA.out _).mono ?_; rintro e W7 ⟨rfl, H7⟩)
    | (go_at_call 18; refine (CS.out _ H7.out).mono ?_; rintro e W8 ⟨rfl, H8⟩))
  have HBq8 := Lk.mk ((HBq6.out.on H7.out).on H8.out)
  have HBw8 := Lk.mk (btr (btr HBw6.out H7.out) H8.out)
  clear HBa6 HBq6 HBw6 H7 H8 CS CA
  obtain ⟨c0, c1, c2, c3, c4, c5', c6', c7, c8⟩ := HBq8.out
  go_upto_region 9 with (first
    | (go_at_call 32; with_reducible refine (CDq.out _).mono ?_; rintro e W9 ⟨v9, rfl, H9⟩))
  have HBq9 := Lk.mk (HBq8.out.on H9.out.below)
  have HBw9 := Lk.mk (btr HBw8.out H9.out.below)
  clear c0 c1 c2 c3 c4 c5' c6' c7 c8 HBq8 HBw8 CDq
  have hF := H9.out.row (by simp)
  rw [show ((q.head + 256) :: q.data).length = 8 from rfl] at hF
  obtain ⟨g9, c9, rfl, hc9, hc9', _, hrow⟩ := hF
  have HRw := Lk.mk hrow
  clear hrow H9
  obtain ⟨c0, c1, c2, c3, c4, c5', c6', c7, c8⟩ := HBq9.out
  go_cut [18, 19] (fun s18 s19 wx => s18 = .int .u64 ((q.head : Int) + ((k6 : Int) + 1)) ∧ s19 = .int .i64 0 ∧ Lk (Below W9.heap.size W9 wx))
  case first =>
    go_region_with (first
      | (go_at_call 10; with_reducible refine (C6.out _).mono ?_; rintro e w' ⟨rfl, rfl⟩)
      | (go_at_call 30; with_reducible refine (CLq.out _).mono ?_; rintro e Wx ⟨rfl, Hx⟩))
    all_goals go_wp2
    all_goals go_meet
    all_goals exact ⟨rfl, rfl, ⟨((Below.refl _ W9).drew).trans Hx.out⟩⟩
  case rest =>
  obtain ⟨rfl, rfl, HB10⟩ := hcut
  have HBq10 := Lk.mk (HBq9.out.on HB10.out)
  have HBw10 := Lk.mk (btr HBw9.out HB10.out)
  have HR10 := Lk.mk (HRw.out.on (Only.of_below (S := fun _ => False) HB10.out) (fun h => h))
  clear c0 c1 c2 c3 c4 c5' c6' c7 c8 HBq9 HBw9 HRw HB10 CLq
  have hq1 := hhd.2.1
  have hq2 := hhd.2.2
  go_wp2_with fail
  go_loopw [20] (fun s20 wx => ∃ k : Nat, k ≤ 7 ∧ s20 = .int .i64 k ∧ Lk (Below wc.heap.size wc wx)) (fun i _ => 7 - (intOf i).toNat)
  case atStart => exact ⟨0, by omega, rfl, ⟨Below.refl _ _⟩⟩
  case round =>
    obtain ⟨k, hk, rfl, HBl⟩ := hrel
    have HBqk := Lk.mk (HBq10.out.on HBl.out)
    have HRk := Lk.mk (HR10.out.on (Only.of_below (S := fun _ => False) HBl.out) (fun h => h))
    by_cases h7 : k < 7
    · have hki : (k : Int) < 7 := by omega
      have d1 := HRk.out.cell (j := 1 + k) (by omega)
      rw [show ((q.head + 256) :: q.data).getD (1 + k) 0 = q.data.getD k 0 from by rw [show 1 + k = k + 1 from by omega]; rfl] at d1
      have d2 := Bp.word HBqk.out h7
      generalize q.data.getD k 0 = y at *
      go_wp2_with fail
      go_quiet (fail)
      go_wp2
      go_roundw
      case rel => exact ⟨k + 1, by omega, by go_num, ⟨drewB HBl.out⟩⟩
      case measure => simp [intOf]; omega
    · obtain rfl : k = 7 := by omega
      have d0 := HRk.out.cell (j := 0) (by omega)
      rw [show ((q.head + 256) :: q.data).getD 0 0 = q.head + 256 from rfl] at d0
      have c1 := HBqk.out.c1
      go_wp2_with fail
      go_quiet ((go_at_call 10; exact Calls.quiet_of_same ((C6.out _).mono fun e w1 h => ⟨h.1, h.2.symm⟩)))
      go_wp2
      go_ret
      exact ⟨rfl, btr HBw10.out (drewB HBl.out)⟩

set_option maxRecDepth 100000 in
theorem lifted (os : Os) (started : os.Started) (H : Type) (enc : TypeId × Value → H) :
    ReturnsInHanded {} Try.checked os 8 .any (Rows.logrecPagesSpec.pre6 enc Try.prog Try.f8 Rows.logrecPagesRow.domain false) (Rows.logrecPagesSpec.post enc Try.prog Try.f8 false true false false) := by
  refine returnsInHanded_of_change (C := Try.checked) own started (by kernel_rfl) Try.func8
    (ChangeSpec.witness6 (enc := enc) (C := Try.checked) false ⟨#[], #[.agg #[.int .i64 0, .int .u64 0, .int .u64 0, .int .u64 0, .int .u64 0, .int .u64 0, .int .u64 0, .int .u64 0, .int .u64 0], .int .i64 0, .int .i64 0], []⟩ 8 (by kernel_rfl) (by kernel_rfl) (by kernel_rfl) (by kernel_rfl)) ?_
  intro W base args ds gs before hval0 hW hcnd _
  have hval : ∀ (j : Nat) t v, Try.f8.params[j]? = some t → args[j]? = some v → Value.okWide Try.prog W .any base t v := hval0
  have hW' := hW
  obtain ⟨p, q, hA0, hV, rfl, hfz, hnd⟩ := hW
  have hA : DataW.TrodAll enc Try.prog W 0 (fun _ => true) true Try.f8.params.toList args.toList ds p := hA0
  rw [Try.params8] at hA hval
  obtain ⟨v0, vs0, d0, ds0, p0, q0, hargs, rfl, rfl, h0, r0⟩ := trodAll_cons hA
  obtain ⟨v1, vs1, d1, ds1, p1, q1, rfl, rfl, rfl, h1, r1⟩ := trodAll_cons r0
  obtain ⟨v2, vs2, d2, ds2, p2, q2, rfl, rfl, rfl, h2, r2⟩ := trodAll_cons r1
  obtain ⟨rfl, rfl, rfl⟩ := trodAll_nil r2
  obtain rfl : args = #[v0, v1, v2] := by cases args; simp_all
  obtain ⟨rfl, rfl⟩ := trodVars_none hV
  have k0 := h0
  have lt0 : ∀ x ∈ p0, x.block < W.heap.size := by obtain ⟨m, hm⟩ := k0; exact DataW.trod_lt m _ _ _ hm
  obtain ⟨a0, rfl, w0⟩ := page_of (hval 0 31 v0 rfl rfl) h0
  obtain ⟨a1, rfl, rfl, rfl, w1⟩ := open_int Try.underlying3 (hval 1 3 v1 rfl rfl) h1
  obtain ⟨a2, rfl, rfl, rfl, w2⟩ := open_int Try.underlying3 (hval 2 3 v2 rfl rfl) h2
  clear hA0 hval0
  refine (walk a0 a1 a2 W w0 w1 w2).mono fun e W' ⟨he, bel⟩ => ?_
  subst he
  exact ⟨_, rfl, _, _, _, [], _, [], hW', trodAll_mk1 (shut_bool Try.underlying4 _), (trodAll_cons_mk (Below.trod laidOut (by kernel_rfl) (of_decide_eq_true (by kernel_rfl)) k0 bel lt0) (trodAll_cons_mk (shut_int Try.underlying3 w1) (trodAll_cons_mk (shut_int Try.underlying3 w2) trodAll_mk0))), rfl, bel.frame _, fun h => by cases h⟩

theorem over : Rows.logrecPagesRow.holds Try.pinned (OpenSpec.ofChange Rows.logrecPagesSpec) :=
  OpenClaim.holds_of_wide 8 Try.f8 rfl rfl rfl rfl rfl rfl rfl ⟨rfl, rfl, rfl, rfl, rfl⟩ rfl rfl rfl rfl rfl (by kernel_rfl) Try.func8 (by kernel_rfl)
    (of_decide_eq_true (by kernel_rfl)) (by unfold Func.isWrapper; first | (rw [if_pos (by decide +kernel)]; kernel_rfl) | (rw [if_neg (by decide +kernel)]; exact ⟨rfl, rfl⟩))
    (fun os started H enc _ => lifted os started H enc)

/-- ████ THE STATEMENT ████ -/
theorem proved : Rows.LogrecPagesSaid := over
end Go.Proofs.Ytdodigfojbijfaa.logrecPages
