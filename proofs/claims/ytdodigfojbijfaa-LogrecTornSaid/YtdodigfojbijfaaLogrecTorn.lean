/-
  For every input LogrecTorn returns true, and each argument reads afterwards as before: package logrec keeps the document here. No condition.
-/
import Derived.Test.YtdodigfojbijfaaRows
import Derived.Test.YtdodigfojbijfaaSa
import Derived.WalkKit
import Derived.ProofKit
import Derived.OpenShut
import Derived.ShutString
import Derived.ChangeOld
import Derived.Below
namespace Go.Proofs.Ytdodigfojbijfaa.logrecTorn
open Go.ChangeShapes Go.WideShapes Go.ChangeAt Go.RowKit Ga Gb Ra Rb Rc Rd Re Rf Rg Rh Ri Rj Rk Rl Rm Rn Ro Rp Rr Rs Rt Ru Rv Un Rw Rx Ry Rz Sa
set_option linter.unusedSimpArgs false
set_option linter.unusedVariables false

theorem own : ownKnob Try.prog.godebug = none := by kernel_rfl
theorem laidOut : laidOutB Try.prog = true := of_decide_eq_true (by kernel_rfl)

set_option maxRecDepth 100000 in
set_option maxHeartbeats 2000000 in
theorem walk (a0 : Int) (a1 : Int) (a2 : Option Addr) (len2 cap2 : Nat) (z2 : List Int) (a3 : Option Addr) (len3 cap3 : Nat) (z3 : List Int) (a4 : Int) (w : World) (w0 : (Lit.int .i64 a0).wf = true) (w1 : (Lit.int .i64 a1).wf = true) (w2 : IsRow .i64 w a2 len2 cap2 z2) (w3 : IsRow .i64 w a3 len3 cap3 z3) (w4 : (Lit.int .i64 a4).wf = true) :
    Calls Try.prog 7 #[.int .i64 a0, .int .i64 a1, .slice a2 len2 cap2, .slice a3 len3 cap3, .int .i64 a4] w fun e w' => e = .returned (.bool true) ∧ Below w.heap.size w w' := by
  have hw0 := bounds_i64 w0
  have hw1 := bounds_i64 w1
  have hw4 := bounds_i64 w4
  go_enter Try.func7, Try.ntmps7
  by_cases hb1 : 20 < len2
  · have hb1i : (20 : Int) < len2 := by omega
    go_wp2
    go_ret
    exact ⟨rfl, Below.refl _ _⟩
  have hb1i : ¬ (20 : Int) < len2 := by omega
  by_cases hb2 : 20 < len3
  · have hb2i : (20 : Int) < len3 := by omega
    go_wp2
    go_ret
    exact ⟨rfl, Below.refl _ _⟩
  have hb2i : ¬ (20 : Int) < len3 := by omega
  have CR := Lk.mk (record_any a2 z2 len2 cap2 a0 200 w w2 (by omega) (by decide) hw0.1 hw0.2)
  have CR2 := Lk.mk (fun (W : World) (hB : Below w.heap.size w W) => record_any a3 z3 len3 cap3 a1 200 W (isrow_on w3 hB) (by omega) (by decide) hw1.1 hw1.2)
  have hsR := recS_range a0
  have hsS := recS_range a1
  obtain ⟨hnR, hlR1, hlR2⟩ := recL_nice a0 200 (z2.take len2)
  obtain ⟨hnS, hlS1, hlS2⟩ := recL_nice a1 200 (z3.take len3)
  have CPk := Lk.mk (fun W => pick_any a4 14 W (by decide) (by decide) hw4.1 hw4.2)
  have hk := pk_lt a4 14 (by decide)
  generalize pk a4 14 = kk at *
  generalize recL a0 200 (z2.take len2) = lR at *
  generalize recL a1 200 (z3.take len3) = lS at *
  generalize recS a0 = sR at *
  generalize recS a1 = sS at *
  obtain ⟨mR, hmR⟩ : ∃ m, lR.length = m := ⟨_, rfl⟩
  obtain ⟨mS, hmS⟩ : ∃ m, lS.length = m := ⟨_, rfl⟩
  have HNR := Lk.mk hnR
  have HNS := Lk.mk hnS
  rw [hmR] at CR hlR1 hlR2
  rw [hmS] at CR2 hlS1 hlS2
  have HMR := Lk.mk hmR
  have HMS := Lk.mk hmS
  have HWR := Lk.mk (hnR.wf (by decide))
  have HWS := Lk.mk (hnS.wf (by decide))
  unfold rcv at CR CR2
  clear hnR hnS hmR hmS hw0 hw1 hw4 w0 w1 w2 w3 w4 hb1 hb2
  go_upto_region 4 with (first
    | (go_at_call 9; with_reducible refine CR.out.mono ?_; rintro e w1 ⟨A1, c1, rfl, HP1⟩)
    | (go_at_call 9; with_reducible refine (CR2.out _ HP1.out.below).mono ?_; rintro e w2 ⟨A2, c2, rfl, HP2⟩))
  have HA1 := Lk.mk (one_alloc w2 (.cells #[.int .i64 sR, .slice A1 mR c1] 25))
  have HA2 := Lk.mk (one_alloc (w2.alloc (.cells #[.int .i64 sR, .slice A1 mR c1] 25)) (.cells #[.int .i64 sS, .slice A2 mS c2] 25))
  have HX1 := Lk.mk (box_on (heap_alloc_new w2 (.cells #[.int .i64 sR, .slice A1 mR c1] 25)) HA2.out)
  have HX2 := Lk.mk (heap_alloc_new (w2.alloc (.cells #[.int .i64 sR, .slice A1 mR c1] 25)) (.cells #[.int .i64 sS, .slice A2 mS c2] 25))
  rw [show (w2.alloc (.cells #[.int .i64 sR, .slice A1 mR c1] 25)).heap.size = w2.heap.size + 1 by simp] at HX2
  have HPR := Lk.mk (Pt.on (HP1.out.on HP2.out.below) (btr HA1.out HA2.out))
  have HPS := Lk.mk (Pt.lower (HP2.out.on (btr HA1.out HA2.out)) HP1.out.below HP1.out.below.size)
  have HKR : Lk (∀ k, (Value.slice A1 mR c1).ownBlock = some k → k < w2.heap.size) := ⟨fun k hk => ((HP1.out.on HP2.out.below).own.lt k hk).2⟩
  have HKS : Lk (∀ k, (Value.slice A2 mS c2).ownBlock = some k → k < w2.heap.size) := ⟨fun k hk => (HP2.out.own.lt k hk).2⟩
  have HGw : Lk (w.heap.size ≤ w2.heap.size) := ⟨Nat.le_trans HP1.out.below.size HP2.out.below.size⟩
  have HR1 := Lk.mk HP1.out.below.size
  clear HP1 HP2 HA1 HA2 CR CR2
  generalize (w2.alloc _).alloc _ = W2 at *
  obtain ⟨g1, hg1⟩ : ∃ g1, w2.heap.size = g1 := ⟨_, rfl⟩
  obtain ⟨g2, hg2⟩ : ∃ g2, g1 + 1 = g2 := ⟨_, rfl⟩
  rw [hg1] at HX1 HX2 HGw HKR HKS ⊢
  rw [hg2] at HX2 ⊢
  have HG12 : Lk (g1 < g2) := ⟨by omega⟩
  clear hg1 hg2 HR1
  obtain ⟨p0, p1, p2, p3⟩ := two_cells HX1.out
  obtain ⟨q0, q1, q2, q3⟩ := two_cells HX2.out
  obtain ⟨sX, hsX⟩ : ∃ sX : Int, (if sR = sS then sS + 1 else sS) = sX := ⟨_, rfl⟩
  have hXb : 1 ≤ sX ∧ sX ≤ 1001 ∧ sX ≠ sR := by rw [← hsX]; split <;> omega
  have hw1 : IntKind.i64.wrap (sS + 1) = sS + 1 := by rw [IntKind.wrap_i64]; omega
  have HE := Lk.mk hsX
  clear hsX
  go_upto_if 43 with fail
  go_cut [43] (fun s wx => Lk (wx.heap[g1]? = some (.cells #[.int .i64 sR, .slice A1 mR c1] 25 (0, 0))) ∧ Lk (wx.heap[g2]? = some (.cells #[.int .i64 sX, .slice A2 mS c2] 25 (0, 0))) ∧ Lk (Pt w w.heap.size wx (.slice A1 mR c1) lR) ∧ Lk (Pt w w.heap.size wx (.slice A2 mS c2) lS))
  case first =>
    by_cases e : sR = sS
    · rw [if_pos e] at HE
      subst e
      go_wp2
      all_goals go_meet
      all_goals exact ⟨⟨(Below.heap_setCell W2 ⟨g2, 0, none⟩ _ g1 (by have h1 := HG12.out; show g1 ≠ g2; omega)).trans HX1.out⟩, HE.out ▸ ⟨heap_setCell_same W2 g2 0 _ _ _ HX2.out⟩, ⟨pt_one _ HPR.out (fun k hk => Nat.lt_trans (HKR.out k hk) HG12.out) (by have h1 := HGw.out; have h2 := HG12.out; omega)⟩, ⟨pt_one _ HPS.out (fun k hk => Nat.lt_trans (HKS.out k hk) HG12.out) (by have h1 := HGw.out; have h2 := HG12.out; omega)⟩⟩
    · rw [if_neg e] at HE
      go_wp2
      all_goals go_meet
      all_goals exact ⟨HX1, HE.out ▸ HX2, HPR, HPS⟩
  obtain ⟨HX1, HX2, HPR, HPS⟩ := hcut
  clear p0 p1 p2 p3 q0 q1 q2 q3 hw1 HE hsS
  obtain ⟨wo, rfl⟩ : ∃ wo : World, wo = wc := ⟨_, rfl⟩
  have hvR := HNR.out.valid (s := sR) (by decide) (by rw [HMR.out]; exact ⟨hlR1, hlR2⟩) (by omega)
  have hvS := HNS.out.valid (s := sX) (by decide) (by rw [HMS.out]; exact ⟨hlS1, hlS2⟩) (by omega)
  obtain ⟨m1, m2, m3⟩ := mark_ok (s := sR) (by omega)
  obtain ⟨mk, hmk⟩ : ∃ mk : Nat, (mk : Int) = Wb.markV sR := ⟨(Wb.markV sR).toNat, by omega⟩
  have hmk2 : mk < 18446744073709551616 := by omega
  have CM := Lk.mk (fun W => Wb.mark_ref sR W)
  rw [m1, ← hmk] at CM
  have hTR : (bodyW sR lR).length = 3 + 9 * mR := by rw [bodyW_len, HMR.out]
  have hTS : (bodyW sX lS).length = 3 + 9 * mS := by rw [bodyW_len, HMS.out]
  have hXR : bodyX sR lR = bodyW sR lR := if_pos (valid_more hvR)
  have hXS : bodyX sX lS = bodyW sX lS := if_pos (valid_more hvS)
  obtain ⟨hc1, hc2, hc3⟩ := log_committed (rest := 0) hvR (by rw [hTR]; omega) hmk
  have hNC := Lk.mk (fun (k : Nat) (hk : 1 ≤ k) => not_committed (L := mp (tornF mk (bodyW sR lR) (bodyW sX lS) k)) (sS := sX) (torn_zero mk _ _ k) hmk (by omega) (by omega) (by omega) ((torn_head mk _ _ k hk).trans (body_head (valid_more hvS))))
  have hWE := Lk.mk (fun (k : Nat) (hk : k = (bodyW sX lS).length) => (show wholeE (mp (tornF mk (bodyW sR lR) (bodyW sX lS) k)) 200 = true ∧ wholeS (mp (tornF mk (bodyW sR lR) (bodyW sX lS) k)) 200 = sX ∧ wholeL (mp (tornF mk (bodyW sR lR) (bodyW sX lS) k)) 200 = lS from by subst hk; exact whole_body (mp_len _) hvS (torn_end mk _ _ (by rw [hTS]; omega))))
  have hlt0 := Lk.mk (bodyW_lt (valid_more hvS) HWS.out)
  have CL := Lk.mk (fun (W : World) (hB : Below wo.heap.size wo W) => log_any sR A1 lR mR c1 mk 0 W HMR.out (by omega) HWR ⟨pt_pgs (HPR.out.on hB) HMR.out⟩ (by rw [hXR, hTR]; omega) hmk2 (by decide))
  rw [show ((0 : Nat) : Int) = 0 from rfl, hXR] at CL
  have CC := Lk.mk (fun (W : World) (ws : List Nat) (g : Nat) (h : Row W g 120 120 ws) => committed_any (some ⟨g, 0, none⟩) ws 200 120 120 W h.len (by decide) (by decide) (by decide) ⟨h.lt⟩ ⟨h.lies⟩)
  have CWh := Lk.mk (fun (W : World) (ws : List Nat) (g : Nat) (h : Row W g 120 120 ws) => whole_any (some ⟨g, 0, none⟩) ws 200 120 120 W h.len (by decide) (by decide) (by decide) ⟨h.lt⟩ ⟨h.lies⟩)
  have CC0 := Lk.mk (fun (W : World) (g : Nat) => CC.out W (logW mk 0 (bodyW sR lR)) g)
  rw [hc1, hc2, hc3] at CC0
  have CB := Lk.mk (fun (W : World) (hP : Pgs W W.heap.size A2 lS) => body_any sX A2 lS mS c2 W HMS.out (by omega) HWS ⟨hP⟩)
  rw [hXS] at CB
  have CIr := Lk.mk (fun W => in_any sR A1 mR c1 W)
  have CIs := Lk.mk (fun W => in_any sX A2 mS c2 W)
  have HCA := Lk.mk awake_any
  have CSR := Lk.mk (fun (W : World) (A : Option Addr) (c : Nat) (hP : Pgs W W.heap.size A lR) (hP' : Pgs W W.heap.size A1 lR) => same_any A A1 lR lR mR mR c c1 W sR sR HMR.out HMR.out (by omega) (by omega) ⟨hP⟩ ⟨hP'⟩)
  have CSS := Lk.mk (fun (W : World) (A : Option Addr) (c : Nat) (hP : Pgs W W.heap.size A lS) (hP' : Pgs W W.heap.size A2 lS) => same_any A A2 lS lS mS mS c c2 W sX sX HMS.out HMS.out (by omega) (by omega) ⟨hP⟩ ⟨hP'⟩)
  rw [show decide (sR = sR ∧ lR = lR) = true from by simp] at CSR
  rw [show decide (sX = sX ∧ lS = lS) = true from by simp] at CSS
  unfold LogPost at CC CWh CC0
  unfold rcv at CL CC CWh CC0 CB CIr CIs CSR CSS
  rw [HMR.out] at CC0
  have HT0 := Lk.mk (torn_start mk (bodyW sR lR) (bodyW sX lS))
  generalize bodyW sR lR = bR at *
  generalize bodyW sX lS = bS at *
  obtain ⟨T, hTT⟩ : ∃ T, 3 + 9 * mS = T := ⟨_, rfl⟩
  rw [hTT] at hTS
  have hTb : 12 ≤ T ∧ T ≤ 111 := by omega
  have HTS := Lk.mk hTS
  clear hvR hvS m1 m2 m3 hmk hmk2 hTR hTS hXR hXS hc1 hc2 hc3 hTT HNR HNS HWR HWS
  obtain ⟨p0, p1, _, _⟩ := two_cells HX1.out
  go_upto_region 7 with (first
    | (go_at_call 23; refine (CM.out _).mono ?_; rintro e w' ⟨rfl, rfl⟩))
  go_upto_region 8 with (first
    | (go_at_call 24; refine (CL.out _ (Below.refl _ _)).mono ?_; rintro e w3 ⟨g3, rfl, HG3, HB3, HRow3⟩))
  have HX1b := Lk.mk (box_on HX1.out HB3.out)
  have HX2b := Lk.mk (box_on HX2.out HB3.out)
  have HPRb := Lk.mk (HPR.out.on HB3.out)
  have HPSb := Lk.mk (HPS.out.on HB3.out)
  have HG23 : Lk (g2 < g3) := ⟨Nat.lt_trans (box_lt HX2.out) HG3.out⟩
  clear p0 p1 CM CL HX1 HX2 HPR HPS HG3 HB3
  go_upto_region 9 with (first
    | (go_at_call 27; refine (CC0.out _ _ HRow3.out).mono ?_; rintro e w4 ⟨A4, c4, rfl, HP4⟩))
  have HX4 := Lk.mk (heap_alloc_new w4 (.cells #[.int .i64 sR, .slice A4 mR c4] 35))
  have HB4 := Lk.mk (btr HP4.out.below (one_alloc w4 (.cells #[.int .i64 sR, .slice A4 mR c4] 35)))
  have HP4b := Lk.mk (HP4.out.on (one_alloc w4 (.cells #[.int .i64 sR, .slice A4 mR c4] 35)))
  obtain ⟨g4, hg4⟩ : ∃ g4, w4.heap.size = g4 := ⟨_, rfl⟩
  rw [hg4] at HX4 ⊢
  clear hg4 HP4
  generalize w4.alloc _ = W4 at *
  have HX1c := Lk.mk (box_on HX1b.out HB4.out)
  have HX2c := Lk.mk (box_on HX2b.out HB4.out)
  have HPRc := Lk.mk (HPRb.out.on HB4.out)
  have HPSc := Lk.mk (HPSb.out.on HB4.out)
  have HRow4 := Lk.mk (HRow3.out.on (Only.of_below (S := fun _ => False) HB4.out) (fun h => h))
  clear HX1b HX2b HPRb HPSb HRow3 HB4 CC0
  obtain ⟨x0, x1, _, _⟩ := two_cells HX4.out
  obtain ⟨y0, y1, _, _⟩ := two_cells HX1c.out
  have HQ0 := Lk.mk (show W4.drew.cell? ⟨g4, 0, none⟩ = some (.int .i64 sR) ∧ W4.drew.cell? ⟨g4, 1, none⟩ = some (.slice A4 mR c4) ∧ W4.drew.cell? ⟨g1, 0, none⟩ = some (.int .i64 sR) ∧ W4.drew.cell? ⟨g1, 1, none⟩ = some (.slice A1 mR c1) ∧ Lk (Below W4.heap.size W4 W4.drew) from ⟨x0, x1, y0, y1, ⟨(Below.refl _ _).drew⟩⟩)
  have CS9 := Lk.mk (fun (W : World) (hB : Below W4.heap.size W4 W) => CSR.out W A4 c4 (pt_pgs (HP4b.out.on hB) HMR.out) (pt_pgs (HPRc.out.on hB) HMR.out))
  go_upto_region 9 with fail
  go_cut [74] (fun s wx => s = .bool false ∧ Lk (Below W4.heap.size W4 wx))
  case first =>
    go_region_held3 (fun W' => W'.cell? ⟨g4, 0, none⟩ = some (.int .i64 sR) ∧ W'.cell? ⟨g4, 1, none⟩ = some (.slice A4 mR c4) ∧ W'.cell? ⟨g1, 0, none⟩ = some (.int .i64 sR) ∧ W'.cell? ⟨g1, 1, none⟩ = some (.slice A1 mR c1) ∧ Lk (Below W4.heap.size W4 W')) (first | with_reducible exact HQ0.out | with_reducible assumption | with_reducible exact quad_on (by assumption) (by assumption))
      (first
        | (go_at_call 13; with_reducible refine (CIr.out _).mono ?_; rintro e w10 ⟨rfl, H10⟩)
        | (go_at_call 15; with_reducible refine (CS9.out _ (quad_below (by assumption))).mono ?_; rintro e w11 ⟨rfl, H11⟩)
        | (go_at_call 11; with_reducible refine (HCA.out _).mono ?_; rintro e w12 ⟨rfl, H12⟩))
    all_goals have HB4 := quad_below (by assumption)
    all_goals go_wp2
    all_goals go_meet
    all_goals exact ⟨rfl, ⟨HB4⟩⟩
  obtain ⟨rfl, HBx⟩ := hcut
  obtain ⟨wp, rfl⟩ : ∃ wp : World, wp = wc := ⟨_, rfl⟩
  clear x0 x1 y0 y1 HQ0 CS9 CSR CIr HCA HP4b HX4 HX1c HPRc
  have HX2d := Lk.mk (box_on HX2c.out HBx.out)
  have HPSd := Lk.mk (HPSc.out.on HBx.out)
  have HRow5 := Lk.mk (HRow4.out.on (Only.of_below (S := fun _ => False) HBx.out) (fun h => h))
  clear HX2c HPSc HRow4 HBx
  obtain ⟨q0, q1, _, _⟩ := two_cells HX2d.out
  have hTi : ¬ (T : Int) < 12 := by omega
  have hk1 : IntKind.i64.wrap ((kk : Int) + 1) = (kk : Int) + 1 := by rw [IntKind.wrap_i64]; omega
  have hk2 : IntKind.i64.wrap (((kk : Int) + 1) * 8) = ((kk : Int) + 1) * 8 := by rw [IntKind.wrap_i64]; omega
  go_upto_region 12 with (first
    | (go_at_call 13; refine (CIs.out _).mono ?_; rintro e w6 ⟨rfl, H6⟩)
    | (go_at_call 17; refine (CB.out _ (pt_pgs (HPSd.out.on H6.out) HMS.out)).mono ?_; rintro e w7 ⟨v7, rfl, HW7⟩))
  have HB7 := Lk.mk (btr H6.out HW7.out.below)
  have HX2e := Lk.mk (box_on HX2d.out HB7.out)
  have HPSe := Lk.mk (HPSd.out.on HB7.out)
  have HRow7 := Lk.mk (HRow5.out.on (Only.of_below (S := fun _ => False) HB7.out) (fun h => h))
  have HO := Lk.mk HW7.out.own
  have hF7 := HW7.out.form
  rw [HTS.out] at hF7
  obtain ⟨A7, c7, rfl, hc7, hc7', hL7⟩ := hF7
  have HL7 := Lk.mk hL7
  have hg3 : Lk (g3 < w6.heap.size) := ⟨Nat.lt_of_lt_of_le HRow5.out.size H6.out.size⟩
  clear q0 q1 hL7 HW7 H6 HB7 HX2d HPSd HRow5 CB
  go_upto_region 15 with (first
    | (go_at_call 10; refine (CPk.out _).mono ?_; rintro e w' ⟨rfl, rfl⟩))
  obtain ⟨N, hN⟩ : ∃ N : Nat, (if ((kk : Int) + 1) * 8 < (T : Int) then ((kk : Int) + 1) * 8 else (T : Int)) = (N : Int) := ⟨if (kk + 1) * 8 < T then (kk + 1) * 8 else T, by split <;> split <;> omega⟩
  have hNb : 8 ≤ N ∧ N ≤ T := by split at hN <;> omega
  rw [hN]
  clear hN hk hk1 hk2 hTi CPk
  rw [HT0.out] at HRow7
  have HOn : Lk (Only (fun i => i = g3) w7 w7) := ⟨Only.refl _ _⟩
  have HKg : Lk (∀ k, (Value.slice A2 mS c2).ownBlock = some k → k < g3) := ⟨fun k hk => Nat.lt_trans (HKS.out k hk) (Nat.lt_trans HG12.out HG23.out)⟩
  have HG3w : Lk (w.heap.size ≤ g3) := ⟨by have h1 := HGw.out; have h2 := HG12.out; have h3 := HG23.out; omega⟩
  clear HKR HKS HT0
  go_wp2_with fail
  go_loopw [20] (fun s20 wr => ∃ k : Nat, k ≤ N ∧ s20 = .int .i64 k ∧ Lk (Row wr g3 120 120 (mp (tornF mk bR bS k))) ∧ Lk (Only (fun i => i = g3) w7 wr)) (fun i _ => N - (intOf i).toNat)
  case atStart => exact ⟨0, by omega, rfl, HRow7, HOn⟩
  case round =>
    clear HRow7 HOn
    obtain ⟨k, hk, rfl, HRw, HOn⟩ := hrel
    by_cases hkt : k < N
    · have hkti : (k : Int) < N := by omega
      have hkT : (k : Int) < T := by omega
      obtain ⟨ad, rfl, hb1, hc1⟩ := HL7.out.at_ (show k < bS.length by have := HTS.out; omega)
      have hne : ad.block ≠ g3 := by have h1 := (HO.out.lt _ rfl).1; have h2 := hg3.out; omega
      have d1 := (show wr.cell? (ad.add k) = w7.cell? (ad.add k) from World.cell?_of_block (by rw [block_of_add]; exact HOn.out.block ad.block hb1 hne)).trans hc1
      have hxl := getD_lt hlt0.out (k := k) (by rw [HTS.out]; omega)
      have hcs := torn_step mk bR bS k
      generalize bS.getD k 0 = x at *
      obtain ⟨J, hJ⟩ : ∃ J, 8 + k = J := ⟨_, rfl⟩
      rw [hJ] at hcs
      have hJb : J < 120 := by omega
      have hJi : (J : Int) < 120 := by omega
      have hJw : IntKind.i64.wrap (8 + (k : Int)) = (J : Int) := by rw [IntKind.wrap_i64]; omega
      have hkw : IntKind.i64.wrap ((k : Int) + 1) = (k : Int) + 1 := by rw [IntKind.wrap_i64]; omega
      have hc := HRw.out.cell (j := J) hJb
      have hf := HRw.out.free J
      have HR1 := Lk.mk (HRw.out.set J x hxl)
      rw [hcs] at HR1
      unfold u64v at HR1
      have HOn1 := Lk.mk (HOn.out.setCell (p := ⟨g3, J, none⟩) (.inl rfl) (.int .u64 (x : Int)))
      clear hne hc1 hcs HRw HOn hJ
      go_wp2_with fail
      go_roundw
      case rel => exact ⟨k + 1, by omega, (by first | rfl | go_num), HR1, HOn1⟩
      case measure => simp [intOf] <;> omega
    · obtain rfl : N = k := by omega
      obtain ⟨wq, rfl⟩ : ∃ wq : World, wq = wr := ⟨_, rfl⟩
      have HPSf := Lk.mk (pt_only HPSe.out HOn.out HKg.out HG3w.out)
      have HX2f := Lk.mk ((HOn.out.block g2 (box_lt HX2e.out) (by have h := HG23.out; show ¬ g2 = g3; omega)).trans HX2e.out)
      have CC1 := Lk.mk (fun W => CC.out W (mp (tornF mk bR bS N)) g3)
      have CW1 := Lk.mk (fun W => CWh.out W (mp (tornF mk bR bS N)) g3)
      rw [hNC.out N (by omega)] at CC1
      have hWEN := hWE.out N
      clear CC CWh hNC hWE HPSe HX2e HOn HKg HG3w HL7 HO hg3 hlt0
      generalize commS (mp (tornF mk bR bS N)) 200 = s8 at *
      generalize commL (mp (tornF mk bR bS N)) 200 = l8 at *
      generalize wholeS (mp (tornF mk bR bS N)) 200 = s9 at *
      generalize wholeL (mp (tornF mk bR bS N)) 200 = l9 at *
      generalize wholeE (mp (tornF mk bR bS N)) 200 = e9 at *
      generalize mp (tornF mk bR bS N) = ws at *
      have hu : undef = Value.tuple #[] := rfl
      go_upto_region 20 with (first
        | (go_at_call 27; refine (CC1.out _ HRw.out).mono ?_; rintro e w8 ⟨A8, c8, rfl, HP8⟩))
      have HB8 := Lk.mk (btr HP8.out.below (one_alloc w8 (.cells #[.int .i64 s8, .slice A8 l8.length c8] 35)))
      clear HP8 CC1
      generalize w8.alloc _ = W8 at *
      have HX2g := Lk.mk (box_on HX2f.out HB8.out)
      have HPSg := Lk.mk (HPSf.out.on HB8.out)
      have HRw8 := Lk.mk (HRw.out.on (Only.of_below (S := fun _ => False) HB8.out) (fun h => h))
      clear HX2f HPSf HRw HB8
      by_cases hNT : N < T
      · have hNTi : (N : Int) < T := by omega
        clear hWEN
        go_upto_region 23 with (first
          | (go_at_call 25; refine (CW1.out _ HRw8.out).mono ?_; rintro e w9 ⟨A9, c9, rfl, HP9⟩))
        have HB9 := Lk.mk (btr HPSg.out.below (btr HP9.out.below (one_alloc w9 (.cells #[.int .i64 s9, .slice A9 l9.length c9] 35))))
        clear HP9 CW1
        generalize w9.alloc _ = W9 at *
        refine wp_region_held_drew (S := fun W' => Lk (Below W9.heap.size W9 W')) (by kernel_rfl) ⟨(Below.refl _ _).drew⟩ (fun hHeld => ?_)
        refine wpAnyH_take (i := 0) (v := ?_) (by simp only [List.getElem?_toArray, List.getElem?_cons_succ, List.getElem?_cons_zero] <;> rfl) (by kernel_rfl) (by kernel_rfl) (by kernel_rfl) (by exact fun _ _ _ h => h) (Or.inl ⟨by rfl, ?_⟩) (by assumption) ?_
        rotate_left
        · (intro w' hSw; (try dsimp only at hSw); go_simp <;> with_reducible rfl)
        (try simp only [Act.put, List.setIfInBounds_toArray, List.set_cons_zero, List.set_cons_succ])
        refine wpAnyH_take (i := 1) (v := ?_) (by simp only [List.getElem?_toArray, List.getElem?_cons_succ, List.getElem?_cons_zero] <;> rfl) (by kernel_rfl) (by kernel_rfl) (by kernel_rfl) (by exact fun _ _ _ h => h) (Or.inl ⟨by rfl, ?_⟩) (by assumption) ?_
        rotate_left
        · (intro w' hSw; (try dsimp only at hSw); go_simp <;> with_reducible rfl)
        (try simp only [Act.put, List.setIfInBounds_toArray, List.set_cons_zero, List.set_cons_succ])
        refine wpAnyH_take (i := 2) (v := ?_) (by simp only [List.getElem?_toArray, List.getElem?_cons_succ, List.getElem?_cons_zero] <;> rfl) (by kernel_rfl) (by kernel_rfl) (by kernel_rfl) (by exact fun _ _ _ h => h) (Or.inl ⟨by rfl, ?_⟩) (by assumption) ?_
        rotate_left
        · (intro w' hSw; (try dsimp only at hSw); go_simp <;> with_reducible rfl)
        (try simp only [Act.put, List.setIfInBounds_toArray, List.set_cons_zero, List.set_cons_succ])
        refine wpAnyH_take (i := 3) (v := ?_) (by simp only [List.getElem?_toArray, List.getElem?_cons_succ, List.getElem?_cons_zero] <;> rfl) (by kernel_rfl) (by kernel_rfl) (by kernel_rfl) (by exact fun _ _ _ h => h) (Or.inl ⟨by rfl, ?_⟩) (by assumption) ?_
        rotate_left
        · (intro w' hSw; (try dsimp only at hSw); go_simp <;> with_reducible rfl)
        (try simp only [Act.put, List.setIfInBounds_toArray, List.set_cons_zero, List.set_cons_succ])
        refine wpAnyH_take (i := 4) (v := ?_) (by simp only [List.getElem?_toArray, List.getElem?_cons_succ, List.getElem?_cons_zero] <;> rfl) (by kernel_rfl) (by kernel_rfl) (by kernel_rfl) (by exact fun _ _ _ h => h) (Or.inl ⟨by rfl, ?_⟩) (by assumption) ?_
        rotate_left
        · (intro w' hSw; (try dsimp only at hSw); go_simp <;> with_reducible rfl)
        (try simp only [Act.put, List.setIfInBounds_toArray, List.set_cons_zero, List.set_cons_succ])
        refine wpAnyH_take (i := 5) (v := undef) (by simp only [List.getElem?_toArray, List.getElem?_cons_succ, List.getElem?_cons_zero] <;> rfl) (by kernel_rfl) (by kernel_rfl) (by kernel_rfl) (by exact fun _ _ _ h => h) (Or.inr ⟨by rfl, rfl⟩) (by assumption) ?_
        (try simp only [Act.put, List.setIfInBounds_toArray, List.set_cons_zero, List.set_cons_succ])
        refine wpAnyH_take (i := 6) (v := undef) (by simp only [List.getElem?_toArray, List.getElem?_cons_succ, List.getElem?_cons_zero] <;> rfl) (by kernel_rfl) (by kernel_rfl) (by kernel_rfl) (by exact fun _ _ _ h => h) (Or.inr ⟨by rfl, rfl⟩) (by assumption) ?_
        (try simp only [Act.put, List.setIfInBounds_toArray, List.set_cons_zero, List.set_cons_succ])
        refine wpAnyH_take (i := 7) (v := undef) (by simp only [List.getElem?_toArray, List.getElem?_cons_succ, List.getElem?_cons_zero] <;> rfl) (by kernel_rfl) (by kernel_rfl) (by kernel_rfl) (by exact fun _ _ _ h => h) (Or.inr ⟨by rfl, rfl⟩) (by assumption) ?_
        (try simp only [Act.put, List.setIfInBounds_toArray, List.set_cons_zero, List.set_cons_succ])
        refine wpAnyH_take (i := 8) (v := undef) (by simp only [List.getElem?_toArray, List.getElem?_cons_succ, List.getElem?_cons_zero] <;> rfl) (by kernel_rfl) (by kernel_rfl) (by kernel_rfl) (by exact fun _ _ _ h => h) (Or.inr ⟨by rfl, rfl⟩) (by assumption) ?_
        (try simp only [Act.put, List.setIfInBounds_toArray, List.set_cons_zero, List.set_cons_succ])
        refine wpAnyH_ready (rs := [9]) (by kernel_rfl) (by simp) ?_
        refine AllReadyH.cons (by simp only [List.getElem?_toArray, List.getElem?_cons_succ, List.getElem?_cons_zero] <;> rfl) (fun K hK => ?_) AllReadyH.nil
        go_simp
        refine hK.out _ _ hHeld (fun hHeld => ?_)
        clear hK K
        (try simp only [Act.put, List.setIfInBounds_toArray, List.set_cons_zero, List.set_cons_succ])
        refine wpAnyH_ready (rs := [10]) (by kernel_rfl) (by simp) ?_
        refine AllReadyH.cons (by simp only [List.getElem?_toArray, List.getElem?_cons_succ, List.getElem?_cons_zero] <;> rfl) (fun K hK => ?_) AllReadyH.nil
        go_simp
        refine hK.out _ _ hHeld (fun hHeld => ?_)
        clear hK K
        (try simp only [Act.put, List.setIfInBounds_toArray, List.set_cons_zero, List.set_cons_succ])
        refine wpAnyH_take (i := 11) (v := undef) (by simp only [List.getElem?_toArray, List.getElem?_cons_succ, List.getElem?_cons_zero] <;> rfl) (by kernel_rfl) (by kernel_rfl) (by kernel_rfl) (by exact fun _ _ _ h => h) (Or.inr ⟨by rfl, rfl⟩) (by assumption) ?_
        (try simp only [Act.put, List.setIfInBounds_toArray, List.set_cons_zero, List.set_cons_succ])
        refine wpAnyH_take (i := 12) (v := ?_) (by simp only [List.getElem?_toArray, List.getElem?_cons_succ, List.getElem?_cons_zero] <;> rfl) (by kernel_rfl) (by kernel_rfl) (by kernel_rfl) (by exact fun _ _ _ h => h) (Or.inl ⟨by rfl, ?_⟩) (by assumption) ?_
        rotate_left
        · (intro w' hSw; (try dsimp only at hSw); go_simp <;> with_reducible rfl)
        (try simp only [Act.put, List.setIfInBounds_toArray, List.set_cons_zero, List.set_cons_succ])
        refine wpAnyH_take (i := 13) (v := ?_) (by simp only [List.getElem?_toArray, List.getElem?_cons_succ, List.getElem?_cons_zero] <;> rfl) (by kernel_rfl) (by kernel_rfl) (by kernel_rfl) (by exact fun _ _ _ h => h) (Or.inl ⟨by rfl, ?_⟩) (by assumption) ?_
        rotate_left
        · (intro w' hSw; (try dsimp only at hSw); go_simp <;> with_reducible rfl)
        (try simp only [Act.put, List.setIfInBounds_toArray, List.set_cons_zero, List.set_cons_succ])
        refine wpAnyH_done (by kernel_rfl) ?_ _
        go_wp2
        go_ret
        exact ⟨rfl, btr HB9.out hHeld.out⟩
      · obtain rfl : N = T := by omega
        have hNTi : ¬ (N : Int) < N := by omega
        obtain ⟨rfl, rfl, rfl⟩ := hWEN HTS.out.symm
        rw [HMS.out] at CW1
        go_upto_region 23 with (first
          | (go_at_call 25; refine (CW1.out _ HRw8.out).mono ?_; rintro e w9 ⟨A9, c9, rfl, HP9⟩))
        have HB9 := Lk.mk (btr HP9.out.below (one_alloc w9 (.cells #[.int .i64 s9, .slice A9 mS c9] 35)))
        have HX9 := Lk.mk (heap_alloc_new w9 (.cells #[.int .i64 s9, .slice A9 mS c9] 35))
        have HP9b := Lk.mk (HP9.out.on (one_alloc w9 (.cells #[.int .i64 s9, .slice A9 mS c9] 35)))
        have HX2h := Lk.mk (box_on HX2g.out HB9.out)
        have HPSh := Lk.mk (HPSg.out.on HB9.out)
        obtain ⟨g9, hg9⟩ : ∃ g9, w9.heap.size = g9 := ⟨_, rfl⟩
        rw [hg9] at HX9 ⊢
        clear hg9 HP9 CW1 HX2g HPSg HB9
        generalize w9.alloc _ = W9 at *
        have HB9 := Lk.mk HPSh.out.below
        obtain ⟨x0, x1, _, _⟩ := two_cells HX9.out
        obtain ⟨y0, y1, _, _⟩ := two_cells HX2h.out
        have HQ0 := Lk.mk (show W9.drew.cell? ⟨g9, 0, none⟩ = some (.int .i64 s9) ∧ W9.drew.cell? ⟨g9, 1, none⟩ = some (.slice A9 mS c9) ∧ W9.drew.cell? ⟨g2, 0, none⟩ = some (.int .i64 s9) ∧ W9.drew.cell? ⟨g2, 1, none⟩ = some (.slice A2 mS c2) ∧ Lk (Below W9.heap.size W9 W9.drew) from ⟨x0, x1, y0, y1, ⟨(Below.refl _ _).drew⟩⟩)
        have CS9 := Lk.mk (fun (W : World) (hB : Below W9.heap.size W9 W) => CSS.out W A9 c9 (pt_pgs (HP9b.out.on hB) HMS.out) (pt_pgs (HPSh.out.on hB) HMS.out))
        go_region_held3 (fun W' => W'.cell? ⟨g9, 0, none⟩ = some (.int .i64 s9) ∧ W'.cell? ⟨g9, 1, none⟩ = some (.slice A9 mS c9) ∧ W'.cell? ⟨g2, 0, none⟩ = some (.int .i64 s9) ∧ W'.cell? ⟨g2, 1, none⟩ = some (.slice A2 mS c2) ∧ Lk (Below W9.heap.size W9 W')) (first | with_reducible exact HQ0.out | with_reducible assumption | with_reducible exact quad_on (by assumption) (by assumption))
          (first
            | (go_at_call 13; with_reducible refine (CIs.out _).mono ?_; rintro e w10 ⟨rfl, H10⟩)
            | (go_at_call 15; with_reducible refine (CS9.out _ (quad_below (by assumption))).mono ?_; rintro e w11 ⟨rfl, H11⟩))
        all_goals have HB4 := quad_below (by assumption)
        all_goals go_wp2
        all_goals go_ret
        all_goals exact ⟨rfl, btr HB9.out HB4⟩

set_option maxRecDepth 100000 in
theorem lifted (os : Os) (started : os.Started) (H : Type) (enc : TypeId × Value → H) :
    ReturnsInHanded {} Try.checked os 7 .any (Rows.logrecTornSpec.pre6 enc Try.prog Try.f7 Rows.logrecTornRow.domain false) (Rows.logrecTornSpec.post enc Try.prog Try.f7 false true false false) := by
  refine returnsInHanded_of_change (C := Try.checked) own started (by kernel_rfl) Try.func7
    (ChangeSpec.witness6 (enc := enc) (C := Try.checked) false ⟨#[], #[.int .i64 0, .int .i64 0, .slice none 0 0, .slice none 0 0, .int .i64 0], []⟩ 8 (by kernel_rfl) (by kernel_rfl) (by kernel_rfl) (by kernel_rfl)) ?_
  intro W base args ds gs before hval0 hW hcnd _
  have hval : ∀ (j : Nat) t v, Try.f7.params[j]? = some t → args[j]? = some v → Value.okWide Try.prog W .any base t v := hval0
  have hW' := hW
  obtain ⟨p, q, hA0, hV, rfl, hfz, hnd⟩ := hW
  have hA : DataW.TrodAll enc Try.prog W 0 (fun _ => true) true Try.f7.params.toList args.toList ds p := hA0
  rw [Try.params7] at hA hval
  obtain ⟨v0, vs0, d0, ds0, p0, q0, hargs, rfl, rfl, h0, r0⟩ := trodAll_cons hA
  obtain ⟨v1, vs1, d1, ds1, p1, q1, rfl, rfl, rfl, h1, r1⟩ := trodAll_cons r0
  obtain ⟨v2, vs2, d2, ds2, p2, q2, rfl, rfl, rfl, h2, r2⟩ := trodAll_cons r1
  obtain ⟨v3, vs3, d3, ds3, p3, q3, rfl, rfl, rfl, h3, r3⟩ := trodAll_cons r2
  obtain ⟨v4, vs4, d4, ds4, p4, q4, rfl, rfl, rfl, h4, r4⟩ := trodAll_cons r3
  obtain ⟨rfl, rfl, rfl⟩ := trodAll_nil r4
  obtain rfl : args = #[v0, v1, v2, v3, v4] := by cases args; simp_all
  obtain ⟨rfl, rfl⟩ := trodVars_none hV
  obtain ⟨a0, rfl, rfl, rfl, w0⟩ := open_int Try.underlying3 (hval 0 3 v0 rfl rfl) h0
  obtain ⟨a1, rfl, rfl, rfl, w1⟩ := open_int Try.underlying3 (hval 1 3 v1 rfl rfl) h1
  obtain ⟨a2, len2, cap2, rfl⟩ := okWide_slice Try.underlying23 (hval 2 23 v2 rfl rfl)
  have k2 := h2
  have lt2 : ∀ x ∈ p2, x.block < W.heap.size := by obtain ⟨m, hm⟩ := k2; exact DataW.trod_lt m _ _ _ hm
  obtain ⟨z2, w2⟩ : ∃ zs, IsRow .i64 W a2 len2 cap2 zs := by
    obtain ⟨fuel, hf⟩ := h2
    exact nums_of hf
  obtain ⟨a3, len3, cap3, rfl⟩ := okWide_slice Try.underlying23 (hval 3 23 v3 rfl rfl)
  have k3 := h3
  have lt3 : ∀ x ∈ p3, x.block < W.heap.size := by obtain ⟨m, hm⟩ := k3; exact DataW.trod_lt m _ _ _ hm
  obtain ⟨z3, w3⟩ : ∃ zs, IsRow .i64 W a3 len3 cap3 zs := by
    obtain ⟨fuel, hf⟩ := h3
    exact nums_of hf
  obtain ⟨a4, rfl, rfl, rfl, w4⟩ := open_int Try.underlying3 (hval 4 3 v4 rfl rfl) h4
  clear hA0 hval0
  refine (walk a0 a1 a2 len2 cap2 z2 a3 len3 cap3 z3 a4 W w0 w1 w2 w3 w4).mono fun e W' ⟨he, bel⟩ => ?_
  subst he
  exact ⟨_, rfl, _, _, _, [], _, [], hW', trodAll_mk1 (shut_bool Try.underlying4 _), (trodAll_cons_mk (shut_int Try.underlying3 w0) (trodAll_cons_mk (shut_int Try.underlying3 w1) (trodAll_cons_mk (Below.trod laidOut (by kernel_rfl) (of_decide_eq_true (by kernel_rfl)) k2 bel lt2) (trodAll_cons_mk (Below.trod laidOut (by kernel_rfl) (of_decide_eq_true (by kernel_rfl)) k3 bel lt3) (trodAll_cons_mk (shut_int Try.underlying3 w4) trodAll_mk0))))), rfl, bel.frame _, fun h => by cases h⟩

theorem over : Rows.logrecTornRow.holds Try.pinned (OpenSpec.ofChange Rows.logrecTornSpec) :=
  OpenClaim.holds_of_wide 7 Try.f7 rfl rfl rfl rfl rfl rfl rfl ⟨rfl, rfl, rfl, rfl, rfl⟩ rfl rfl rfl rfl rfl (by kernel_rfl) Try.func7 (by kernel_rfl)
    (of_decide_eq_true (by kernel_rfl)) (by unfold Func.isWrapper; first | (rw [if_pos (by decide +kernel)]; kernel_rfl) | (rw [if_neg (by decide +kernel)]; exact ⟨rfl, rfl⟩))
    (fun os started H enc _ => lifted os started H enc)

/-- ████ THE STATEMENT ████ -/
theorem proved : Rows.LogrecTornSaid := over
end Go.Proofs.Ytdodigfojbijfaa.logrecTorn
