/-
  For every input LogrecLogs returns true, and each argument reads afterwards as before: package logrec keeps the document here. No condition.
-/
import Derived.Test.YtdodigfojbijfaaRows
import Derived.Test.YtdodigfojbijfaaSb
import Derived.WalkKit
import Derived.ProofKit
import Derived.OpenShut
import Derived.ShutString
import Derived.ChangeOld
import Derived.Below
namespace Go.Proofs.Ytdodigfojbijfaa.logrecLogs
open Go.ChangeShapes Go.WideShapes Go.ChangeAt Go.RowKit Ga Gb Ra Rb Rc Rd Re Rf Rg Rh Ri Rj Rk Rl Rm Rn Ro Rp Rr Rs Rt Ru Rv Un Rw Rx Ry Rz Sa Sb
set_option linter.unusedSimpArgs false
set_option linter.unusedVariables false

theorem own : ownKnob Try.prog.godebug = none := by kernel_rfl
theorem laidOut : laidOutB Try.prog = true := of_decide_eq_true (by kernel_rfl)

set_option maxRecDepth 100000 in
set_option maxHeartbeats 2000000 in
theorem walk (a0 : Int) (a1 : Option Addr) (len1 cap1 : Nat) (z1 : List Int) (a2 : Int) (a3 : Bool) (a4 : Int) (a5 : Int) (a6 : Int) (a7 : Option Addr) (len7 cap7 : Nat) (z7 : List Int) (a8 : Int) (w : World) (w0 : (Lit.int .i64 a0).wf = true) (w1 : IsRow .i64 w a1 len1 cap1 z1) (w2 : (Lit.int .u64 a2).wf = true) (w4 : (Lit.int .u64 a4).wf = true) (w5 : (Lit.int .i64 a5).wf = true) (w6 : (Lit.int .u64 a6).wf = true) (w7 : IsRow .u64 w a7 len7 cap7 z7) (w8 : (Lit.int .i64 a8).wf = true) :
    Calls Try.prog 6 #[.int .i64 a0, .slice a1 len1 cap1, .int .u64 a2, .bool a3, .int .u64 a4, .int .i64 a5, .int .u64 a6, .slice a7 len7 cap7, .int .i64 a8] w fun e w' => e = .returned (.bool true) ∧ Below w.heap.size w w' := by
  have hw0 := bounds_i64 w0
  have hw5 := bounds_i64 w5
  have hw8 := bounds_i64 w8
  obtain ⟨mk0, rfl, hmk0⟩ : ∃ b : Nat, a2 = (b : Int) ∧ b < 18446744073709551616 := ⟨a2.toNat, by have := bounds_u64 w2; omega, by have := bounds_u64 w2; omega⟩
  obtain ⟨rest, rfl, hrest⟩ : ∃ b : Nat, a4 = (b : Int) ∧ b < 18446744073709551616 := ⟨a4.toNat, by have := bounds_u64 w4; omega, by have := bounds_u64 w4; omega⟩
  obtain ⟨by_, rfl, hby⟩ : ∃ b : Nat, a6 = (b : Int) ∧ b < 18446744073709551616 := ⟨a6.toNat, by have := bounds_u64 w6; omega, by have := bounds_u64 w6; omega⟩
  have hlen7 := w7.len
  have HWs := Lk.mk (w7.lies wf64)
  have HWt := Lk.mk (w7.lt wf64)
  generalize nats len7 z7 = words at *
  obtain ⟨hx1, hx2, hx3⟩ := hlen7
  have hx4 : cap7 ≤ 9223372036854775807 := by unfold maxLen at hx3; omega
  go_enter Try.func6, Try.ntmps6
  by_cases hb1 : 20 < len1
  · have hb1i : (20 : Int) < len1 := by omega
    go_wp2
    go_ret
    exact ⟨rfl, Below.refl _ _⟩
  have hb1i : ¬ (20 : Int) < len1 := by omega
  by_cases hb2 : 200 < len7
  · have hb2i : (200 : Int) < len7 := by omega
    go_wp2
    go_ret
    exact ⟨rfl, Below.refl _ _⟩
  have hb2i : ¬ (200 : Int) < len7 := by omega
  have CR := Lk.mk (record_any a1 z1 len1 cap1 a0 200 w w1 (by omega) (by decide) hw0.1 hw0.2)
  have hv := recL_valid a0 200 (z1.take len1) (by decide)
  obtain ⟨hnice, hl1, hl2⟩ := recL_nice a0 200 (z1.take len1)
  have hwf := hnice.wf (by decide)
  have HCA := Lk.mk awake_any
  have CPn := Lk.mk (fun W => pick_any a8 170 W (by decide) (by decide) hw8.1 hw8.2)
  have hnl := pk_lt a8 170 (by decide)
  have CPk := Lk.mk (fun W => pick_any a5 120 W (by decide) (by decide) hw5.1 hw5.2)
  have hk := pk_lt a5 120 (by decide)
  generalize recL a0 200 (z1.take len1) = l at *
  generalize recS a0 = s at *
  generalize pk a8 170 = k8 at *
  generalize pk a5 120 = kk at *
  obtain ⟨m, hm⟩ : ∃ m, l.length = m := ⟨_, rfl⟩
  have hX : bodyX s l = bodyW s l := if_pos (valid_more hv)
  have hT : (bodyW s l).length = 3 + 9 * m := by rw [bodyW_len, hm]
  rw [hm] at CR hl1 hl2
  have HWf := Lk.mk hwf
  have HM := Lk.mk hm
  have CL := Lk.mk (fun (mk : Nat) (hmk : mk < 18446744073709551616) (A : Option Addr) (c : Nat) (W : World) (hP : Pgs W W.heap.size A l) => log_any s A l m c mk rest W HM.out (by omega) HWf ⟨hP⟩ (by rw [hX, hT]; omega) hmk hrest)
  rw [hX] at CL
  generalize bodyW s l = bd at *
  have CO := Lk.mk (fun (s : Int) (A : Option Addr) (n c : Nat) W => out_any s A n c W)
  have CS := Lk.mk (fun (s : Int) (l : List Pg) (n : Nat) (W : World) (A A' : Option Addr) (c c' : Nat) (hn : l.length = n) (hb : n ≤ 4294967296) (hP : Pgs W W.heap.size A l) (hP' : Pgs W W.heap.size A' l) => (show Calls Try.prog 16 #[rcv s A n c, rcv s A' n c'] W (fun e w' => e = .returned (.bool true) ∧ Lk (Below W.heap.size W w')) from by
    have h := sameRecord_any (w := W) (A := A) (A' := A') (l := l) (m := l) (n := n) (n' := n) (c := c) (c' := c') s s hn hn hb hb ⟨hP⟩ ⟨hP'⟩
    rwa [show decide (s = s ∧ l = l) = true from by simp] at h))
  have CW := Lk.mk (fun (W : World) (ws : List Nat) (A : Option Addr) (n c : Nat) (L : Int) (hn : ws.length = n) (hb : n ≤ 4294967296) (hc : n ≤ c) (hc2 : c ≤ 9223372036854775807) (hlt : ∀ x ∈ ws, x < 18446744073709551616) (hL : Lies .u64 W W.heap.size A ws) => whole_any A ws L n c W hn hb hc hc2 ⟨hlt⟩ ⟨hL⟩)
  have CWr := Lk.mk (fun (W : World) (ws : List Nat) (A : Option Addr) (n c : Nat) (L : Int) (hn : ws.length = n) (hb : n ≤ 4294967296) (hc : n ≤ c) (hc2 : c ≤ 9223372036854775807) (hlt : ∀ x ∈ ws, x < 18446744073709551616) (hL : Lies .u64 W W.heap.size A ws) => refWhole_any A ws L n c W hn hb hc hc2 ⟨hlt⟩ ⟨hL⟩)
  have CC := Lk.mk (fun (W : World) (ws : List Nat) (g : Nat) (L : Int) (h : Row W g 120 120 ws) => committed_any (some ⟨g, 0, none⟩) ws L 120 120 W h.len (by decide) (by decide) (by decide) ⟨h.lt⟩ ⟨h.lies⟩)
  have CCr := Lk.mk (fun (W : World) (ws : List Nat) (g : Nat) (L : Int) (h : Row W g 120 120 ws) => refCommitted_any (some ⟨g, 0, none⟩) ws L 120 120 W h.len (by decide) (by decide) (by decide) ⟨h.lt⟩ ⟨h.lies⟩)
  unfold LogPost at CW CWr CC CCr
  unfold rcv at CR CL CO CS CW CWr CC CCr
  clear hX hT hwf hnice hv hw0 w0 w1 w2 w4 w5 w6 w7 w8 hb1 hb2 hw5 hw8 hm hl1 hl2 HWf
  go_upto_region 4 with (first
    | (go_at_call 9; refine CR.out.mono ?_; rintro e w1 ⟨A1, c1, rfl, HP1⟩))
  have HX1 := Lk.mk (heap_alloc_new w1 (.cells #[.int .i64 s, .slice A1 m c1] 25))
  have HP2 := Lk.mk (HP1.out.on (one_alloc w1 (.cells #[.int .i64 s, .slice A1 m c1] 25)))
  obtain ⟨g1, hg1⟩ : ∃ g1, w1.heap.size = g1 := ⟨_, rfl⟩
  rw [hg1] at HX1 ⊢
  clear hg1 HP1 CR
  generalize w1.alloc _ = W1 at *
  obtain ⟨p0, p1, p2, p3⟩ := two_cells HX1.out
  go_upto_if 48 with fail
  go_cut [2] (fun s2 wx => (∃ mk : Nat, s2 = .int .u64 (mk : Int) ∧ mk < 18446744073709551616) ∧ wx = W1)
  case first =>
    cases a3 with
    | false =>
      go_wp2
      all_goals go_meet
      all_goals exact ⟨⟨mk0, rfl, hmk0⟩, rfl⟩
    | true =>
      go_wp2_with (first
        | (go_at_call 23; refine (Wb.mark_ref _ _).mono ?_; rintro e w' ⟨rfl, rfl⟩))
      all_goals go_meet
      all_goals exact ⟨⟨(Wb.markV _).toNat, by rw [Int.toNat_of_nonneg (mark_nat _).1], (Int.toNat_lt (mark_nat _).1).2 (mark_nat _).2⟩, rfl⟩
  obtain ⟨⟨mk, rfl, hmk⟩, rfl⟩ := hcut
  clear p0 p1 p2 p3
  obtain ⟨wo, rfl⟩ : ∃ wo : World, wo = wc := ⟨_, rfl⟩
  obtain ⟨p0, p1, _, _⟩ := two_cells HX1.out
  have CL1 := CL.out mk hmk A1 c1 wo (pt_pgs HP2.out HM.out)
  obtain ⟨L, hL⟩ : ∃ L : Int, (k8 : Int) + 94 = L := ⟨_, rfl⟩
  have hLw : IntKind.i64.wrap ((k8 : Int) + 94) = L := by rw [IntKind.wrap_i64]; omega
  go_upto_region 7 with (first
    | (go_at_call 24; refine CL1.mono ?_; rintro e w3 ⟨g3, rfl, HG3, HB3, HRow3⟩))
  have HB3w := Lk.mk (btr HP2.out.below HB3.out)
  have HG3w : Lk (w.heap.size ≤ g3) := ⟨by have h1 := HP2.out.below.size; have h2 := HG3.out; omega⟩
  generalize logW mk rest bd = ws0 at *
  clear p0 p1 CL CL1 HX1 HP2 HG3 HB3 HM hmk
  go_wp2_with (first
    | (go_at_call 10; refine (CPn.out _).mono ?_; rintro e w' ⟨rfl, rfl⟩))
  go_loopw [22] (fun s22 wr => ∃ k : Nat, k ≤ 2 ∧ s22 = .int .i64 k ∧ ∃ ws : List Nat, Lk (Row wr g3 120 120 ws) ∧ Lk (Below w.heap.size w wr)) (fun i _ => 2 - (intOf i).toNat)
  case atStart => exact ⟨0, by omega, rfl, ws0, HRow3, HB3w⟩
  case round =>
    clear HRow3 HB3w CPn hLw hnl hL
    obtain ⟨k, hk2, rfl, ws, HRw, HBw⟩ := hrel
    obtain ⟨wq, rfl⟩ : ∃ wq : World, wq = wr := ⟨_, rfl⟩
    by_cases hkt : k < 2
    · have hkti : (k : Int) < 2 := by omega
      have hkw : IntKind.i64.wrap ((k : Int) + 1) = (k : Int) + 1 := by rw [IntKind.wrap_i64]; omega
      have CA1 := Lk.mk (fun (W : World) (hR : Row W g3 120 120 ws) => CW.out W ws (some ⟨g3, 0, none⟩) 120 120 L hR.len (by decide) (by decide) (by decide) hR.lt hR.lies)
      have CB1 := Lk.mk (fun (W : World) (hR : Row W g3 120 120 ws) => CWr.out W ws (some ⟨g3, 0, none⟩) 120 120 L hR.len (by decide) (by decide) (by decide) hR.lt hR.lies)
      have CC1 := Lk.mk (fun (W : World) (hR : Row W g3 120 120 ws) => CC.out W ws g3 L hR)
      have CD1 := Lk.mk (fun (W : World) (hR : Row W g3 120 120 ws) => CCr.out W ws g3 L hR)
      have hn1 := wholeL_len ws L
      have hn2 := commL_len ws L
      clear CW CWr CC CCr
      generalize wholeE ws L = e1 at *
      generalize wholeS ws L = s1 at *
      generalize wholeL ws L = l1 at *
      generalize commE ws L = e2 at *
      generalize commS ws L = s2 at *
      generalize commL ws L = l2 at *
      obtain ⟨n1, hN1⟩ : ∃ n, l1.length = n := ⟨_, rfl⟩
      obtain ⟨n2, hN2⟩ : ∃ n, l2.length = n := ⟨_, rfl⟩
      rw [hN1] at CA1 CB1 hn1
      rw [hN2] at CC1 CD1 hn2
      have HN1 := Lk.mk hN1
      have HN2 := Lk.mk hN2
      clear hN1 hN2
      go_upto_region 12 with (first
        | (go_at_call 25; refine (CA1.out _ HRw.out).mono ?_; rintro e wa ⟨Aa, ca, rfl, HP⟩))
      have HXga := Lk.mk (heap_alloc_new wa (.cells #[.int .i64 s1, .slice Aa n1 ca] 35))
      have HBB := Lk.mk (btr HP.out.below (one_alloc wa (.cells #[.int .i64 s1, .slice Aa n1 ca] 35)))
      have HPPga := Lk.mk (HP.out.on (one_alloc wa (.cells #[.int .i64 s1, .slice Aa n1 ca] 35)))
      have HRw := Lk.mk (HRw.out.on (Only.of_below (S := fun _ => False) HBB.out) (fun h => h))
      have HBw := Lk.mk (btr HBw.out HBB.out)
      obtain ⟨ga, hg⟩ : ∃ g, wa.heap.size = g := ⟨_, rfl⟩
      rw [hg] at HXga ⊢
      clear hg HP HBB CA1
      generalize wa.alloc _ = Wa at *
      go_upto_region 13 with (first
        | (go_at_call 26; refine (CB1.out _ HRw.out).mono ?_; rintro e wb ⟨Ab, cb, rfl, HP⟩))
      have HXgb := Lk.mk (heap_alloc_new wb (.cells #[.int .i64 s1, .slice Ab n1 cb] 25))
      have HBB := Lk.mk (btr HP.out.below (one_alloc wb (.cells #[.int .i64 s1, .slice Ab n1 cb] 25)))
      have HPPgb := Lk.mk (HP.out.on (one_alloc wb (.cells #[.int .i64 s1, .slice Ab n1 cb] 25)))
      have HXga := Lk.mk (box_on HXga.out HBB.out)
      have HPPga := Lk.mk (HPPga.out.on HBB.out)
      have HRw := Lk.mk (HRw.out.on (Only.of_below (S := fun _ => False) HBB.out) (fun h => h))
      have HBw := Lk.mk (btr HBw.out HBB.out)
      obtain ⟨gb, hg⟩ : ∃ g, wb.heap.size = g := ⟨_, rfl⟩
      rw [hg] at HXgb ⊢
      clear hg HP HBB CB1
      generalize wb.alloc _ = Wb_ at *
      go_upto_region 14 with (first
        | (go_at_call 27; refine (CC1.out _ HRw.out).mono ?_; rintro e wc ⟨Ac, cc, rfl, HP⟩))
      have HXgc := Lk.mk (heap_alloc_new wc (.cells #[.int .i64 s2, .slice Ac n2 cc] 35))
      have HBB := Lk.mk (btr HP.out.below (one_alloc wc (.cells #[.int .i64 s2, .slice Ac n2 cc] 35)))
      have HPPgc := Lk.mk (HP.out.on (one_alloc wc (.cells #[.int .i64 s2, .slice Ac n2 cc] 35)))
      have HXga := Lk.mk (box_on HXga.out HBB.out)
      have HPPga := Lk.mk (HPPga.out.on HBB.out)
      have HXgb := Lk.mk (box_on HXgb.out HBB.out)
      have HPPgb := Lk.mk (HPPgb.out.on HBB.out)
      have HRw := Lk.mk (HRw.out.on (Only.of_below (S := fun _ => False) HBB.out) (fun h => h))
      have HBw := Lk.mk (btr HBw.out HBB.out)
      obtain ⟨gc, hg⟩ : ∃ g, wc.heap.size = g := ⟨_, rfl⟩
      rw [hg] at HXgc ⊢
      clear hg HP HBB CC1
      generalize wc.alloc _ = Wc_ at *
      go_upto_region 15 with (first
        | (go_at_call 28; refine (CD1.out _ HRw.out).mono ?_; rintro e wd_ ⟨Ad, cd, rfl, HP⟩))
      have HXgd := Lk.mk (heap_alloc_new wd_ (.cells #[.int .i64 s2, .slice Ad n2 cd] 25))
      have HBB := Lk.mk (btr HP.out.below (one_alloc wd_ (.cells #[.int .i64 s2, .slice Ad n2 cd] 25)))
      have HPPgd := Lk.mk (HP.out.on (one_alloc wd_ (.cells #[.int .i64 s2, .slice Ad n2 cd] 25)))
      have HXga := Lk.mk (box_on HXga.out HBB.out)
      have HPPga := Lk.mk (HPPga.out.on HBB.out)
      have HXgb := Lk.mk (box_on HXgb.out HBB.out)
      have HPPgb := Lk.mk (HPPgb.out.on HBB.out)
      have HXgc := Lk.mk (box_on HXgc.out HBB.out)
      have HPPgc := Lk.mk (HPPgc.out.on HBB.out)
      have HRw := Lk.mk (HRw.out.on (Only.of_below (S := fun _ => False) HBB.out) (fun h => h))
      have HBw := Lk.mk (btr HBw.out HBB.out)
      obtain ⟨gd, hg⟩ : ∃ g, wd_.heap.size = g := ⟨_, rfl⟩
      rw [hg] at HXgd ⊢
      clear hg HP HBB CD1
      generalize wd_.alloc _ = W4 at *
      obtain ⟨x0, x1, _, _⟩ := two_cells HXga.out
      obtain ⟨y0, y1, _, _⟩ := two_cells HXgb.out
      obtain ⟨z0, z1, _, _⟩ := two_cells HXgc.out
      obtain ⟨t0, t1, _, _⟩ := two_cells HXgd.out
      have HQ0 := Lk.mk (show (W4.drew.cell? ⟨ga, 0, none⟩ = some (.int .i64 s1) ∧ W4.drew.cell? ⟨ga, 1, none⟩ = some (.slice Aa n1 ca) ∧ W4.drew.cell? ⟨gb, 0, none⟩ = some (.int .i64 s1) ∧ W4.drew.cell? ⟨gb, 1, none⟩ = some (.slice Ab n1 cb) ∧ W4.drew.cell? ⟨gc, 0, none⟩ = some (.int .i64 s2) ∧ W4.drew.cell? ⟨gc, 1, none⟩ = some (.slice Ac n2 cc) ∧ W4.drew.cell? ⟨gd, 0, none⟩ = some (.int .i64 s2) ∧ W4.drew.cell? ⟨gd, 1, none⟩ = some (.slice Ad n2 cd) ∧ Lk (Below W4.heap.size W4 W4.drew)) from ⟨x0, x1, y0, y1, z0, z1, t0, t1, ⟨(Below.refl _ _).drew⟩⟩)
      have CS1 := Lk.mk (fun (W : World) (hB : Below W4.heap.size W4 W) => CS.out s1 l1 n1 W Aa Ab ca cb HN1.out (by omega) (pt_pgs (HPPga.out.on hB) HN1.out) (pt_pgs (HPPgb.out.on hB) HN1.out))
      have CS2 := Lk.mk (fun (W : World) (hB : Below W4.heap.size W4 W) => CS.out s2 l2 n2 W Ac Ad cc cd HN2.out (by omega) (pt_pgs (HPPgc.out.on hB) HN2.out) (pt_pgs (HPPgd.out.on hB) HN2.out))
      go_upto_region 15 with fail
      go_cut [119] (fun s wx => s = .bool false ∧ Lk (Below W4.heap.size W4 wx))
      case first =>
        go_region_held3 (fun W' => (W'.cell? ⟨ga, 0, none⟩ = some (.int .i64 s1) ∧ W'.cell? ⟨ga, 1, none⟩ = some (.slice Aa n1 ca) ∧ W'.cell? ⟨gb, 0, none⟩ = some (.int .i64 s1) ∧ W'.cell? ⟨gb, 1, none⟩ = some (.slice Ab n1 cb) ∧ W'.cell? ⟨gc, 0, none⟩ = some (.int .i64 s2) ∧ W'.cell? ⟨gc, 1, none⟩ = some (.slice Ac n2 cc) ∧ W'.cell? ⟨gd, 0, none⟩ = some (.int .i64 s2) ∧ W'.cell? ⟨gd, 1, none⟩ = some (.slice Ad n2 cd) ∧ Lk (Below W4.heap.size W4 W'))) (first | with_reducible exact HQ0.out | with_reducible assumption | with_reducible exact oct_on (by assumption) (by assumption))
          (first
            | (go_at_call 22; with_reducible refine (CO.out s1 Aa n1 ca _).mono ?_; rintro e w10 ⟨rfl, H10⟩)
            | (go_at_call 16; with_reducible refine (CS1.out _ (oct_below (by assumption))).mono ?_; rintro e w11 ⟨rfl, H11⟩)
            | (go_at_call 22; with_reducible refine (CO.out s2 Ac n2 cc _).mono ?_; rintro e w12 ⟨rfl, H12⟩)
            | (go_at_call 16; with_reducible refine (CS2.out _ (oct_below (by assumption))).mono ?_; rintro e w13 ⟨rfl, H13⟩)
            | (go_at_call 11; with_reducible refine (HCA.out _).mono ?_; rintro e w14 ⟨rfl, H14⟩))
        all_goals have HB4 := oct_below (by assumption)
        all_goals go_wp2
        all_goals go_meet
        all_goals exact ⟨rfl, ⟨HB4⟩⟩
      obtain ⟨rfl, HBx⟩ := hcut
      have HRx := Lk.mk (HRw.out.on (Only.of_below (S := fun _ => False) HBx.out) (fun h => h))
      have HBy := Lk.mk (btr HBw.out HBx.out)
      clear x0 x1 y0 y1 z0 z1 t0 t1 HQ0 CS1 CS2 HXga HXgb HXgc HXgd HPPga HPPgb HPPgc HPPgd HRw HBw HBx HN1 HN2
      have hkk : kk < 120 := by omega
      have hkki : (kk : Int) < 120 := by omega
      have hcell := HRx.out.cell (j := kk) hkk
      have hfr := HRx.out.free kk
      have hxl := getD_lt HRx.out.lt (k := kk) (by rw [HRx.out.len]; exact hkk)
      generalize ws.getD kk 0 = x at *
      have hxor := xor_nat x by_ hxl hby
      have hyl := xor_lt hxl hby
      generalize x ^^^ by_ = y at *
      have HR1 := Lk.mk (HRx.out.set kk y hyl)
      have HB1 := Lk.mk (HBy.out.setCell (p := ⟨g3, kk, none⟩) HG3w.out (u64v y))
      unfold u64v at HR1 HB1
      clear HRx HBy
      go_wp2_with (first
        | (go_at_call 10; refine (CPk.out _).mono ?_; rintro e w' ⟨rfl, rfl⟩))
      go_roundw
      case rel => exact ⟨k + 1, by omega, (by first | rfl | go_num), _, HR1, HB1⟩
      case measure => simp [intOf] <;> omega
    · obtain rfl : k = 2 := by omega
      have CA1 := Lk.mk (fun (W : World) (hL : Lies .u64 W W.heap.size a7 words) => CW.out W words a7 len7 cap7 200 hx1 (by omega) hx2 hx4 HWt.out hL)
      have CB1 := Lk.mk (fun (W : World) (hL : Lies .u64 W W.heap.size a7 words) => CWr.out W words a7 len7 cap7 200 hx1 (by omega) hx2 hx4 HWt.out hL)
      have CT := Lk.mk (fun (W : World) (hR : Row W g3 120 120 ws) => CW.out W (ws.take 119) (some ⟨g3, 0, none⟩) 119 120 200 (by rw [List.length_take, hR.len]; rfl) (by decide) (by decide) (by decide) (take_lt hR.lt _) (lies_take hR.lies (by rw [hR.len]; decide)))
      have hTl : (ws.take 119).length ≠ 120 := by rw [List.length_take]; omega
      rw [(whole_no hTl).1] at CT
      have hs := fun (w : World) => slice_headW (some ⟨g3, 0, none⟩) 120 120 119 w (by decide)
      rw [show ((119 : Nat) : Int) = 119 from rfl] at hs
      clear CW CWr CC CCr hTl
      generalize wholeE words 200 = e1 at *
      generalize wholeS words 200 = s1 at *
      generalize wholeL words 200 = l1 at *
      generalize wholeS (ws.take 119) 200 = s2 at *
      generalize wholeL (ws.take 119) 200 = l2 at *
      have HL1 := Lk.mk ((HWs.out.below HBw.out).more HBw.out.size)
      go_upto_region 19 with (first
        | (go_at_call 25; refine (CA1.out _ HL1.out).mono ?_; rintro e wa ⟨Aa, ca, rfl, HP⟩))
      have HBB := Lk.mk (btr HP.out.below (one_alloc wa (.cells #[.int .i64 s1, .slice Aa l1.length ca] 35)))
      clear HP CA1
      generalize wa.alloc _ = Wa at *
      have HL2 := Lk.mk (HL1.out.on_ HBB.out)
      have HR2 := Lk.mk (HRw.out.on (Only.of_below (S := fun _ => False) HBB.out) (fun h => h))
      have HB2 := Lk.mk (btr HBw.out HBB.out)
      clear HL1 HRw HBw HBB
      go_upto_region 20 with (first
        | (go_at_call 26; refine (CB1.out _ HL2.out).mono ?_; rintro e wb ⟨Ab, cb, rfl, HP⟩))
      have HBB := Lk.mk (btr HP.out.below (one_alloc wb (.cells #[.int .i64 s1, .slice Ab l1.length cb] 25)))
      clear HP CB1
      generalize wb.alloc _ = Wb_ at *
      have HR3 := Lk.mk (HR2.out.on (Only.of_below (S := fun _ => False) HBB.out) (fun h => h))
      have HB3 := Lk.mk (btr HB2.out HBB.out)
      clear HL2 HR2 HB2 HBB
      go_upto_region 21 with (first
        | (go_at_call 25; refine (CT.out _ HR3.out).mono ?_; rintro e wc ⟨Ac, cc, rfl, HP⟩))
      have HB4 := Lk.mk (btr HB3.out (btr HP.out.below (one_alloc wc (.cells #[.int .i64 s2, .slice Ac l2.length cc] 35))))
      clear HP CT
      generalize wc.alloc _ = Wc at *
      go_wp2
      go_ret
      exact ⟨rfl, HB4.out⟩

set_option maxRecDepth 100000 in
theorem lifted (os : Os) (started : os.Started) (H : Type) (enc : TypeId × Value → H) :
    ReturnsInHanded {} Try.checked os 6 .any (Rows.logrecLogsSpec.pre6 enc Try.prog Try.f6 Rows.logrecLogsRow.domain false) (Rows.logrecLogsSpec.post enc Try.prog Try.f6 false true false false) := by
  refine returnsInHanded_of_change (C := Try.checked) own started (by kernel_rfl) Try.func6
    (ChangeSpec.witness6 (enc := enc) (C := Try.checked) false ⟨#[], #[.int .i64 0, .slice none 0 0, .int .u64 0, .bool false, .int .u64 0, .int .i64 0, .int .u64 0, .slice none 0 0, .int .i64 0], []⟩ 8 (by kernel_rfl) (by kernel_rfl) (by kernel_rfl) (by kernel_rfl)) ?_
  intro W base args ds gs before hval0 hW hcnd _
  have hval : ∀ (j : Nat) t v, Try.f6.params[j]? = some t → args[j]? = some v → Value.okWide Try.prog W .any base t v := hval0
  have hW' := hW
  obtain ⟨p, q, hA0, hV, rfl, hfz, hnd⟩ := hW
  have hA : DataW.TrodAll enc Try.prog W 0 (fun _ => true) true Try.f6.params.toList args.toList ds p := hA0
  rw [Try.params6] at hA hval
  obtain ⟨v0, vs0, d0, ds0, p0, q0, hargs, rfl, rfl, h0, r0⟩ := trodAll_cons hA
  obtain ⟨v1, vs1, d1, ds1, p1, q1, rfl, rfl, rfl, h1, r1⟩ := trodAll_cons r0
  obtain ⟨v2, vs2, d2, ds2, p2, q2, rfl, rfl, rfl, h2, r2⟩ := trodAll_cons r1
  obtain ⟨v3, vs3, d3, ds3, p3, q3, rfl, rfl, rfl, h3, r3⟩ := trodAll_cons r2
  obtain ⟨v4, vs4, d4, ds4, p4, q4, rfl, rfl, rfl, h4, r4⟩ := trodAll_cons r3
  obtain ⟨v5, vs5, d5, ds5, p5, q5, rfl, rfl, rfl, h5, r5⟩ := trodAll_cons r4
  obtain ⟨v6, vs6, d6, ds6, p6, q6, rfl, rfl, rfl, h6, r6⟩ := trodAll_cons r5
  obtain ⟨v7, vs7, d7, ds7, p7, q7, rfl, rfl, rfl, h7, r7⟩ := trodAll_cons r6
  obtain ⟨v8, vs8, d8, ds8, p8, q8, rfl, rfl, rfl, h8, r8⟩ := trodAll_cons r7
  obtain ⟨rfl, rfl, rfl⟩ := trodAll_nil r8
  obtain rfl : args = #[v0, v1, v2, v3, v4, v5, v6, v7, v8] := by cases args; simp_all
  obtain ⟨rfl, rfl⟩ := trodVars_none hV
  obtain ⟨a0, rfl, rfl, rfl, w0⟩ := open_int Try.underlying3 (hval 0 3 v0 rfl rfl) h0
  obtain ⟨a1, len1, cap1, rfl⟩ := okWide_slice Try.underlying23 (hval 1 23 v1 rfl rfl)
  have k1 := h1
  have lt1 : ∀ x ∈ p1, x.block < W.heap.size := by obtain ⟨m, hm⟩ := k1; exact DataW.trod_lt m _ _ _ hm
  obtain ⟨z1, w1⟩ : ∃ zs, IsRow .i64 W a1 len1 cap1 zs := by
    obtain ⟨fuel, hf⟩ := h1
    exact nums_of hf
  obtain ⟨a2, rfl, rfl, rfl, w2⟩ := open_int Try.underlying28 (hval 2 28 v2 rfl rfl) h2
  obtain ⟨a3, rfl, rfl, rfl⟩ := open_bool Try.underlying4 (hval 3 4 v3 rfl rfl) h3
  obtain ⟨a4, rfl, rfl, rfl, w4⟩ := open_int Try.underlying28 (hval 4 28 v4 rfl rfl) h4
  obtain ⟨a5, rfl, rfl, rfl, w5⟩ := open_int Try.underlying3 (hval 5 3 v5 rfl rfl) h5
  obtain ⟨a6, rfl, rfl, rfl, w6⟩ := open_int Try.underlying28 (hval 6 28 v6 rfl rfl) h6
  obtain ⟨a7, len7, cap7, rfl⟩ := okWide_slice Try.underlying41 (hval 7 41 v7 rfl rfl)
  have k7 := h7
  have lt7 : ∀ x ∈ p7, x.block < W.heap.size := by obtain ⟨m, hm⟩ := k7; exact DataW.trod_lt m _ _ _ hm
  obtain ⟨z7, w7⟩ : ∃ zs, IsRow .u64 W a7 len7 cap7 zs := by
    obtain ⟨fuel, hf⟩ := h7
    rcases open_ints Try.underlying41 Try.underlying28 (by kernel_rfl) hf with ⟨hcs, _⟩ | ⟨x, l, c, zs, hcs, _, hl, hm, hz, _, hcell, hwz⟩
    · simp [Value.cells] at hcs
      obtain ⟨rfl, rfl, rfl⟩ := hcs
      exact ⟨[], .inl ⟨rfl, rfl, rfl, rfl⟩⟩
    · simp [Value.cells] at hcs
      obtain ⟨rfl, rfl, rfl⟩ := hcs
      exact ⟨zs, .inr ⟨_, rfl, hl, hm, by simpa using hz, hcell, hwz⟩⟩
  obtain ⟨a8, rfl, rfl, rfl, w8⟩ := open_int Try.underlying3 (hval 8 3 v8 rfl rfl) h8
  clear hA0 hval0
  refine (walk a0 a1 len1 cap1 z1 a2 a3 a4 a5 a6 a7 len7 cap7 z7 a8 W w0 w1 w2 w4 w5 w6 w7 w8).mono fun e W' ⟨he, bel⟩ => ?_
  subst he
  exact ⟨_, rfl, _, _, _, [], _, [], hW', trodAll_mk1 (shut_bool Try.underlying4 _), (trodAll_cons_mk (shut_int Try.underlying3 w0) (trodAll_cons_mk (Below.trod laidOut (by kernel_rfl) (of_decide_eq_true (by kernel_rfl)) k1 bel lt1) (trodAll_cons_mk (shut_int Try.underlying28 w2) (trodAll_cons_mk (shut_bool Try.underlying4 _) (trodAll_cons_mk (shut_int Try.underlying28 w4) (trodAll_cons_mk (shut_int Try.underlying3 w5) (trodAll_cons_mk (shut_int Try.underlying28 w6) (trodAll_cons_mk (Below.trod laidOut (by kernel_rfl) (of_decide_eq_true (by kernel_rfl)) k7 bel lt7) (trodAll_cons_mk (shut_int Try.underlying3 w8) trodAll_mk0))))))))), rfl, bel.frame _, fun h => by cases h⟩

theorem over : Rows.logrecLogsRow.holds Try.pinned (OpenSpec.ofChange Rows.logrecLogsSpec) :=
  OpenClaim.holds_of_wide 6 Try.f6 rfl rfl rfl rfl rfl rfl rfl ⟨rfl, rfl, rfl, rfl, rfl⟩ rfl rfl rfl rfl rfl (by kernel_rfl) Try.func6 (by kernel_rfl)
    (of_decide_eq_true (by kernel_rfl)) (by unfold Func.isWrapper; first | (rw [if_pos (by decide +kernel)]; kernel_rfl) | (rw [if_neg (by decide +kernel)]; exact ⟨rfl, rfl⟩))
    (fun os started H enc _ => lifted os started H enc)

/-- ████ THE STATEMENT ████ -/
theorem proved : Rows.LogrecLogsSaid := over
end Go.Proofs.Ytdodigfojbijfaa.logrecLogs
