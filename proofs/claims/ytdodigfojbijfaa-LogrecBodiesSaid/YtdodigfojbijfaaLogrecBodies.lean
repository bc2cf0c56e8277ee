/-
  For every input LogrecBodies returns true, and each argument reads afterwards as before: package logrec keeps the document here. No condition.
-/
import Derived.Test.YtdodigfojbijfaaRows
import Derived.Test.YtdodigfojbijfaaRy
import Derived.WalkKit
import Derived.ProofKit
import Derived.OpenShut
import Derived.ShutString
import Derived.ChangeOld
import Derived.Below
namespace Go.Proofs.Ytdodigfojbijfaa.logrecBodies
open Go.ChangeShapes Go.WideShapes Go.ChangeAt Go.RowKit Ga Gb Ra Rb Rc Rd Re Rf Rg Rh Ri Rj Rk Rl Rm Rn Ro Rp Rr Rs Rt Ru Rv Un Rx Ry
set_option linter.unusedSimpArgs false
set_option linter.unusedVariables false

theorem own : ownKnob Try.prog.godebug = none := by kernel_rfl
theorem laidOut : laidOutB Try.prog = true := of_decide_eq_true (by kernel_rfl)

set_option maxRecDepth 100000 in
set_option maxHeartbeats 2000000 in
theorem walk (a0 : Int) (a1 : Option Addr) (len1 cap1 : Nat) (z1 : List Int) (a2 : Option Addr) (len2 cap2 : Nat) (z2 : List Int) (a3 : Int) (a4 : Int) (a5 : Int) (a6 : Option Addr) (len6 cap6 : Nat) (z6 : List Int) (w : World) (w0 : (Lit.int .i64 a0).wf = true) (w1 : IsRow .i64 w a1 len1 cap1 z1) (w2 : IsRow .u64 w a2 len2 cap2 z2) (w3 : (Lit.int .i64 a3).wf = true) (w4 : (Lit.int .i64 a4).wf = true) (w5 : (Lit.int .u64 a5).wf = true) (w6 : IsRow .u64 w a6 len6 cap6 z6) :
    Calls Try.prog 4 #[.int .i64 a0, .slice a1 len1 cap1, .slice a2 len2 cap2, .int .i64 a3, .int .i64 a4, .int .u64 a5, .slice a6 len6 cap6] w fun e w' => e = .returned (.bool true) ∧ Below w.heap.size w w' := by
  have hw0 := bounds_i64 w0
  have hw3 := bounds_i64 w3
  have hw4 := bounds_i64 w4
  obtain ⟨by_, rfl, hby⟩ : ∃ b : Nat, a5 = (b : Int) ∧ b < 18446744073709551616 := ⟨a5.toNat, by have := bounds_u64 w5; omega, by have := bounds_u64 w5; omega⟩
  have hlen2 := w2.len
  have hlen6 := w6.len
  have HWs := Lk.mk (w2.lies wf64)
  have HWt := Lk.mk (w2.lt wf64)
  have HMs := Lk.mk (w6.lies wf64)
  have HMt := Lk.mk (w6.lt wf64)
  generalize nats len2 z2 = words at *
  generalize nats len6 z6 = more at *
  obtain ⟨hx1, hx2, hx3⟩ := hlen2
  obtain ⟨hm1, hm2, hm3⟩ := hlen6
  have hx4 : cap2 ≤ 9223372036854775807 := by unfold maxLen at hx3; omega
  obtain ⟨i0, hi, hz0, hz1, hz2⟩ := info_parts u64info
  go_enter Try.func4, Try.ntmps4
  by_cases hb1 : 20 < len1
  · have hb1i : (20 : Int) < len1 := by omega
    go_wp2
    go_ret
    exact ⟨rfl, Below.refl _ _⟩
  have hb1i : ¬ (20 : Int) < len1 := by omega
  by_cases hb2 : 200 < len2
  · have hb2i : (200 : Int) < len2 := by omega
    go_wp2
    go_ret
    exact ⟨rfl, Below.refl _ _⟩
  have hb2i : ¬ (200 : Int) < len2 := by omega
  by_cases hb3 : 60 < len6
  · have hb3i : (60 : Int) < len6 := by omega
    go_wp2
    go_ret
    exact ⟨rfl, Below.refl _ _⟩
  have hb3i : ¬ (60 : Int) < len6 := by omega
  have CR := Lk.mk (record_any a1 z1 len1 cap1 a0 256 w w1 (by omega) (by decide) hw0.1 hw0.2)
  have hv := recL_valid a0 256 (z1.take len1) (by decide)
  obtain ⟨hnice, hl1, hl2⟩ := recL_nice a0 256 (z1.take len1)
  have hwf := hnice.wf (by decide)
  have HCA := Lk.mk awake_any
  have CPn := Lk.mk (fun W => pick_any a3 170 W (by decide) (by decide) hw3.1 hw3.2)
  have hnl := pk_lt a3 170 (by decide)
  have CPk := Lk.mk (fun (T : Nat) (h1 : 1 ≤ (T : Int)) (h2 : (T : Int) ≤ 4294967296) W => pick_any a4 T W h1 h2 hw4.1 hw4.2)
  generalize recL a0 256 (z1.take len1) = l at *
  generalize recS a0 = s at *
  generalize pk a3 170 = k3 at *
  have hX : bodyX s l = bodyW s l := if_pos hv
  have hT : (bodyW s l).length = 3 + 9 * l.length := bodyW_len s l
  have hblt := bodyW_lt hv hwf
  obtain ⟨m, hm⟩ : ∃ m, l.length = m := ⟨_, rfl⟩
  rw [hm] at hT CR hl1 hl2
  have HWf := Lk.mk hwf
  have HM := Lk.mk hm
  have CB := Lk.mk (fun (W : World) (A : Option Addr) (c : Nat) (hP : Pgs W W.heap.size A l) => body_any s A l m c W HM.out (by omega) HWf ⟨hP⟩)
  have CB2 := Lk.mk (fun (W : World) (A : Option Addr) (c : Nat) (hP : Pgs W W.heap.size A l) => refBody_any s A l m c W HM.out (by omega) HWf ⟨hP⟩)
  rw [hX] at CB CB2
  have CI := Lk.mk (fun (A : Option Addr) (c : Nat) W => in_any s A m c W)
  have CBn := Lk.mk (fun (W : World) => body_any a0 none [] 0 0 W rfl (by decide) ⟨fun p hp => by cases hp⟩ ⟨Pgs.nil⟩)
  rw [bodyX_nil] at CBn
  have CO := Lk.mk (fun (s : Int) (A : Option Addr) (n c : Nat) W => out_any s A n c W)
  have CS := Lk.mk (fun (s : Int) (l : List Pg) (n : Nat) (W : World) (A A' : Option Addr) (c c' : Nat) (hn : l.length = n) (hb : n ≤ 4294967296) (hP : Pgs W W.heap.size A l) (hP' : Pgs W W.heap.size A' l) => (show Calls Try.prog 16 #[rcv s A n c, rcv s A' n c'] W (fun e w' => e = .returned (.bool true) ∧ Lk (Below W.heap.size W w')) from by
    have h := sameRecord_any (w := W) (A := A) (A' := A') (l := l) (m := l) (n := n) (n' := n) (c := c) (c' := c') s s hn hn hb hb ⟨hP⟩ ⟨hP'⟩
    rwa [show decide (s = s ∧ l = l) = true from by simp] at h))
  unfold rcv at CR CB CB2 CI CO CS CBn
  generalize bodyW s l = bd at *
  obtain ⟨T, hTT⟩ : ∃ T, 3 + 9 * m = T := ⟨_, rfl⟩
  rw [hTT] at hT
  have hTb : 12 ≤ T ∧ T ≤ 111 := by omega
  have HT := Lk.mk hT
  have HBl := Lk.mk hblt
  have HTm : Lk ((T : Int) = 3 + 9 * (m : Int)) := ⟨by omega⟩
  have hv1 : IntKind.i64.wrap (9 * (m : Int)) = 9 * (m : Int) := by rw [IntKind.wrap_i64]; omega
  have hv2 : IntKind.i64.wrap (3 + 9 * (m : Int)) = 3 + 9 * (m : Int) := by rw [IntKind.wrap_i64]; omega
  have hTl : ¬ (112 : Int) < T := by omega
  have CW := Lk.mk (fun (A A' : Option Addr) (c c' : Nat) (W : World) (h1 : Lies .u64 W W.heap.size A bd) (h2 : Lies .u64 W W.heap.size A' bd) => (show Calls Try.prog 18 #[.slice A T c, .slice A' T c'] W (fun e w' => e = .returned (.bool true) ∧ Lk (Below W.heap.size W w')) from by
    have h := sameWords_any A A' T c T c' bd bd W HT.out HT.out ⟨h1⟩ ⟨h2⟩ (by omega) (by omega)
    rwa [decide_eq_true rfl] at h))
  have CP := Lk.mk (fun (W : World) (b : List Nat) (n : Nat) (A : Option Addr) (c : Nat) (L : Int) (hb : b.length = n) (hn : n ≤ 4294967296) (hbl : ∀ x ∈ b, x < 18446744073709551616) (hc : n ≤ c) (hc2 : c ≤ 9223372036854775807) (hL : Lies .u64 W W.heap.size A b) => parse_any A b L n c W hb hn hc hc2 ⟨hbl⟩ ⟨hL⟩)
  have CQ := Lk.mk (fun (W : World) (b : List Nat) (n : Nat) (A : Option Addr) (c : Nat) (L : Int) (hb : b.length = n) (hn : n ≤ 4294967296) (hbl : ∀ x ∈ b, x < 18446744073709551616) (hc : n ≤ c) (hc2 : c ≤ 9223372036854775807) (hL : Lies .u64 W W.heap.size A b) => refParse_any A b L n c W hb hn hc hc2 ⟨hbl⟩ ⟨hL⟩)
  unfold ParsePost at CQ
  unfold rcv at CP CQ
  clear hblt hT hX hwf hnice hv hw0 w0 w1 w2 w3 w4 w5 w6 hTT hm hb1 hb2 hw3 hw4 hb3
  go_upto_region 4 with (first
    | (go_at_call 9; refine CR.out.mono ?_; rintro e w1 ⟨A1, c1, rfl, HP1⟩))
  have HR1 := Lk.mk (Br.start w1 s A1 m c1 25)
  have HB1 := Lk.mk (btr HP1.out.below (one_alloc w1 (.cells #[.int .i64 s, .slice A1 m c1] 25)))
  have HP2 := Lk.mk (HP1.out.on (one_alloc w1 (.cells #[.int .i64 s, .slice A1 m c1] 25)))
  obtain ⟨g1, hg1⟩ : ∃ g1, w1.heap.size = g1 := ⟨_, rfl⟩
  rw [hg1] at HR1 ⊢
  clear hg1 HP1 CR
  generalize w1.alloc _ = W1 at *
  have HPg := Lk.mk (fun (W : World) (hB : Below W1.heap.size W1 W) => pt_pgs (HP2.out.on hB) HM.out)
  have HRd := Lk.mk (fun (W : World) (hB : Below W1.heap.size W1 W) => (HR1.out.on hB))
  have r0 := HR1.out.c0
  have r1 := HR1.out.c1
  clear HP2 HR1
  go_upto_region 5 with (first
    | (go_at_call 13; refine (CI.out A1 c1 _).mono ?_; rintro e w2 ⟨rfl, H2⟩)
    | (go_at_call 17; refine (CB.out _ A1 c1 (HPg.out _ H2.out)).mono ?_; rintro e w3 ⟨v3, rfl, HW3⟩))
  have HB3 := Lk.mk (btr H2.out HW3.out.below)
  have hF := HW3.out.form
  rw [HT.out] at hF
  obtain ⟨A3, c3, rfl, hc3, hc3', hL3⟩ := hF
  have HL3 := Lk.mk hL3
  have q0 := (HRd.out _ HB3.out).c0
  have q1 := (HRd.out _ HB3.out).c1
  clear hL3 r0 r1 CB
  go_upto_region 7 with (first
    | (go_at_call 11; refine (HCA.out _).mono ?_; rintro e w4 ⟨rfl, H4⟩; have HB4 := Lk.mk (btr HB3.out H4.out); have q2 := (HRd.out _ HB4.out).c0; have q3 := (HRd.out _ HB4.out).c1)
    | (go_at_call 19; refine (CB2.out _ A1 c1 (HPg.out _ HB4.out)).mono ?_; rintro e w5 ⟨v5, rfl, HW5⟩; have HF5 := HW5.out.form; rw [HT.out] at HF5; obtain ⟨A5, c5, rfl, hc5, hc5', hL5⟩ := HF5)
    | (go_at_call 18; refine (CW.out A3 A5 c3 c5 _ (((HL3.out.on_ H4.out).below HW5.out.below).more HW5.out.below.size) hL5).mono ?_; rintro e w6 ⟨rfl, H6⟩; have HB6 := Lk.mk (btr HB4.out (btr HW5.out.below H6.out)); have q4 := (HRd.out _ HB6.out).c0; have q5 := (HRd.out _ HB6.out).c1))
  rotate_left
  · exact absurd HTm.out (by assumption)
  rename (T : Int) = 3 + 9 * (m : Int) => hcx
  clear hcx
  clear q0 q1 q2 q3 q4 q5 hv1 hv2 hTl CB2 CW hL5 hc5 hc5' HPg HRd HL3 CI HCA
  obtain ⟨L, hL⟩ : ∃ L : Int, (k3 : Int) + 94 = L := ⟨_, rfl⟩
  have hLw : IntKind.i64.wrap ((k3 : Int) + 94) = L := by rw [IntKind.wrap_i64]; omega
  have HW6 := Lk.mk (HW3.out.on (btr (btr H4.out HW5.out.below) H6.out))
  have HB7 := Lk.mk (btr HB1.out HB6.out)
  have HMs6 := Lk.mk ((HMs.out.below HB7.out).more HB7.out.size)
  have hd1 : (bd ++ more).length = T + len6 := by rw [List.length_append, HT.out, hm1]
  have HD1 := Lk.mk hd1
  have HBw2 := Lk.mk (btr HB1.out H2.out)
  clear HTm HW3 HB3 HB4 HW5 H4 H6 H2 hd1 HB1
  go_wp2_with (first
    | (go_at_call 10; refine (CPn.out _).mono ?_; rintro e w' ⟨rfl, rfl⟩)
    | (at_builtin; refine wpList_onto rfl _ _ 41 rfl w2.heap.size 28 i0 (.int .u64 0) 1 8 Try.underlying41 hi hz0 hz1 hz2 rfl (by decide) (.slice A3 T c3) bd.length (bd.map u64v) rfl HW6.out.own a6 len6 cap6 (more.map u64v) rfl (by have h := From.words HMs6.out; rwa [hm1] at h) (words_one _) ?d1 ?d2 HW6.out.below.size ?_))
  case d1 => rw [HT.out]; unfold maxLen; omega
  case d2 => rw [HT.out]; omega
  intro v6 w7 hown6 hgrow6
  have HW7 : Lk (Wt w2 w7 v6 (bd ++ more)) := ⟨HW6.out.after HMt.out (by rw [hm1]; exact hown6) hgrow6⟩
  have HB8 := Lk.mk (btr HBw2.out HW7.out.below)
  have hF6 := HW7.out.form
  rw [HD1.out] at hF6
  obtain ⟨A6, c6, rfl, hc6, hc6', hL6⟩ := hF6
  have HL6 := Lk.mk hL6
  have HBt := Lk.mk HW7.out.lt
  have hg2 : Lk (w.heap.size ≤ w7.heap.size) := ⟨HB8.out.size⟩
  clear hL6 HW6 HMs6 HB6 HB7 hown6 hgrow6 HBw2 CPn hLw
  obtain ⟨N6, hN6⟩ : ∃ N6, T + len6 = N6 := ⟨_, rfl⟩
  rw [hN6] at HD1 hc6 ⊢
  have hNb : 12 ≤ N6 ∧ N6 ≤ 171 := by omega
  generalize bd ++ more = b6 at *
  have CP9 := Lk.mk (fun (W : World) (hL : Lies .u64 W W.heap.size A6 b6) => CP.out W b6 N6 A6 c6 L HD1.out (by omega) HBt.out hc6 hc6' hL)
  have CQ9 := Lk.mk (fun (W : World) (hL : Lies .u64 W W.heap.size A6 b6) => CQ.out W b6 N6 A6 c6 L HD1.out (by omega) HBt.out hc6 hc6' hL)
  generalize parseE b6 L = E7 at *
  generalize parseS b6 L = s7 at *
  have hnl7 : Lk ((parseL b6 L).length ≤ 4294967296) := ⟨by have := parseL_len b6 L; omega⟩
  generalize parseL b6 L = l7 at *
  obtain ⟨n7, hn7⟩ : ∃ n7, l7.length = n7 := ⟨_, rfl⟩
  rw [hn7] at CP9 CQ9 hnl7
  have HN7 := Lk.mk hn7
  clear hn7 hm1 HMs HMt hm2 hm3 HWf HM HBl HT
  go_upto_region 10 with (first
    | (go_at_call 20; refine (CP9.out _ HL6.out).mono ?_; rintro e w8 ⟨A7, c7, rfl, HP7⟩))
  have HX7 := Lk.mk (heap_alloc_new w8 (.cells #[.int .i64 s7, .slice A7 n7 c7] 35))
  have HP7b := Lk.mk (Pt.lower (HP7.out.on (one_alloc w8 (.cells #[.int .i64 s7, .slice A7 n7 c7] 35))) HB8.out (Nat.le_refl _))
  have HL7 := Lk.mk ((HL6.out.on_ HP7.out.below).on_ (one_alloc w8 (.cells #[.int .i64 s7, .slice A7 n7 c7] 35)))
  have HG7 : Lk (w.heap.size ≤ w8.heap.size) := ⟨Nat.le_trans HB8.out.size HP7.out.below.size⟩
  obtain ⟨g7, hg7⟩ : ∃ g7, w8.heap.size = g7 := ⟨_, rfl⟩
  rw [hg7] at HX7 HG7 ⊢
  clear hg7 HP7 CP9 HL6
  generalize w8.alloc _ = W7 at *
  go_upto_region 11 with (first
    | (go_at_call 21; refine (CQ9.out _ HL7.out).mono ?_; rintro e w9 ⟨A8, c8, rfl, HP8⟩))
  have HX8 := Lk.mk (heap_alloc_new w9 (.cells #[.int .i64 s7, .slice A8 n7 c8] 25))
  have HB9 := Lk.mk (btr HP8.out.below (one_alloc w9 (.cells #[.int .i64 s7, .slice A8 n7 c8] 25)))
  have HP8b := Lk.mk (HP8.out.on (one_alloc w9 (.cells #[.int .i64 s7, .slice A8 n7 c8] 25)))
  have HP7c := Lk.mk (HP7b.out.on HB9.out)
  have HX7b := Lk.mk (box_on HX7.out HB9.out)
  have HL8 := Lk.mk (HL7.out.on_ HB9.out)
  have HG8 : Lk (g7 < w9.heap.size) := ⟨Nat.lt_of_lt_of_le (box_lt HX7.out) HP8.out.below.size⟩
  obtain ⟨g8, hg8⟩ : ∃ g8, w9.heap.size = g8 := ⟨_, rfl⟩
  rw [hg8] at HX8 HG8 ⊢
  clear hg8 HP8 CQ9 HL7 HP7b HX7 HB9
  generalize w9.alloc _ = W8 at *
  have HB8w := Lk.mk HP7c.out.below
  obtain ⟨x0, x1, _, _⟩ := two_cells HX7b.out
  obtain ⟨y0, y1, _, _⟩ := two_cells HX8.out
  have HQ0 := Lk.mk (show W8.drew.cell? ⟨g7, 0, none⟩ = some (.int .i64 s7) ∧ W8.drew.cell? ⟨g7, 1, none⟩ = some (.slice A7 n7 c7) ∧ W8.drew.cell? ⟨g8, 0, none⟩ = some (.int .i64 s7) ∧ W8.drew.cell? ⟨g8, 1, none⟩ = some (.slice A8 n7 c8) ∧ Lk (Below W8.heap.size W8 W8.drew) from ⟨x0, x1, y0, y1, ⟨(Below.refl _ _).drew⟩⟩)
  have CS9 := Lk.mk (fun (W : World) (hB : Below W8.heap.size W8 W) => CS.out s7 l7 n7 W A7 A8 c7 c8 HN7.out hnl7.out (pt_pgs (HP7c.out.on hB) HN7.out) (pt_pgs (HP8b.out.on hB) HN7.out))
  go_upto_region 11 with fail
  go_cut [93] (fun s wx => s = .bool false ∧ Lk (Below W8.heap.size W8 wx))
  case first =>
    go_region_held3 (fun W' => W'.cell? ⟨g7, 0, none⟩ = some (.int .i64 s7) ∧ W'.cell? ⟨g7, 1, none⟩ = some (.slice A7 n7 c7) ∧ W'.cell? ⟨g8, 0, none⟩ = some (.int .i64 s7) ∧ W'.cell? ⟨g8, 1, none⟩ = some (.slice A8 n7 c8) ∧ Lk (Below W8.heap.size W8 W')) (first | with_reducible exact HQ0.out | with_reducible assumption | with_reducible exact quad_on (by assumption) (by assumption))
      (first
        | (go_at_call 22; with_reducible refine (CO.out s7 A7 n7 c7 _).mono ?_; rintro e w10 ⟨rfl, H10⟩)
        | (go_at_call 16; with_reducible refine (CS9.out _ (quad_below (by assumption))).mono ?_; rintro e w11 ⟨rfl, H11⟩))
    all_goals have HB4 := quad_below (by assumption)
    all_goals go_wp2
    all_goals go_meet
    all_goals exact ⟨rfl, ⟨HB4⟩⟩
  obtain ⟨rfl, HBx⟩ := hcut
  clear x0 x1 y0 y1 HQ0 CS9 HN7 hnl7
  have HXa := Lk.mk (box_on HX7b.out HBx.out)
  have HXb := Lk.mk (box_on HX8.out HBx.out)
  have HLx := Lk.mk (HL8.out.on_ HBx.out)
  have HBw := Lk.mk (btr HB8w.out HBx.out)
  have HGb : Lk (w.heap.size ≤ g8) := ⟨by have h1 := HG7.out; have h2 := HG8.out; omega⟩
  clear HX7b HX8 HL8 HB8w HP7c HP8b HBx
  go_wp2_with (first
    | (at_builtin; refine wpList_onto rfl _ _ 41 rfl wc.heap.size 28 i0 (.int .u64 0) 1 8 Try.underlying41 hi hz0 hz1 hz2 rfl (by decide) (.slice none 0 0) 0 [] rfl (World.ownsRow_nil _ _ _ _) A6 N6 c6 (b6.map u64v) rfl (by have h := From.words HLx.out; rwa [HD1.out] at h) (words_one _) ?e1 ?e2 (Nat.le_refl _) ?_))
  case e1 => unfold maxLen; omega
  case e2 => omega
  intro v9 w10 hown9 hgrow9
  have HW9 : Lk (Wt wc w10 v9 b6) := ⟨⟨by rw [HD1.out]; simpa using hown9, below_none hgrow9, HBt.out⟩⟩
  have hF9 := HW9.out.row (by rw [HD1.out]; omega)
  rw [HD1.out] at hF9
  obtain ⟨g9, c9, rfl, hc9, hc9', hg9, hrow9⟩ := hF9
  have HRow9 := Lk.mk hrow9
  have HG9 : Lk (g8 < g9) := ⟨Nat.lt_of_lt_of_le (box_lt HXb.out) hg9⟩
  have HXa9 := Lk.mk (box_on HXa.out HW9.out.below)
  have HXb9 := Lk.mk (box_on HXb.out HW9.out.below)
  have HB9 := Lk.mk (btr HBw.out HW9.out.below)
  have CPT := Lk.mk (CPk.out N6 (by omega) (by omega))
  have hk := pk_lt a4 (N6 : Int) (by omega)
  generalize pk a4 (N6 : Int) = k at *
  have hkT : k < N6 := by omega
  have hcell := HRow9.out.cell (j := k) hkT
  have hfr := HRow9.out.free k
  have hxl := getD_lt HRow9.out.lt (k := k) (by rw [HD1.out]; exact hkT)
  generalize b6.getD k 0 = x at *
  have hxor := xor_nat x by_ hxl hby
  have hyl := xor_lt hxl hby
  generalize x ^^^ by_ = y at *
  clear hown9 hgrow9 hrow9 hg9 HXa HXb HLx HBw HW9 CPk
  have HRow10 := Lk.mk (HRow9.out.set k y hyl)
  have HXa10 := Lk.mk ((Below.heap_setCell w10 ⟨g9, k, none⟩ (u64v y) g7 (by have h1 := HG8.out; have h2 := HG9.out; show g7 ≠ g9; omega)).trans HXa9.out)
  have HXb10 := Lk.mk ((Below.heap_setCell w10 ⟨g9, k, none⟩ (u64v y) g8 (by have h2 := HG9.out; show g8 ≠ g9; omega)).trans HXb9.out)
  have HB10 := Lk.mk (HB9.out.setCell (p := ⟨g9, k, none⟩) (by have h1 := HGb.out; have h2 := HG9.out; show w.heap.size ≤ g9; omega) (u64v y))
  unfold u64v at HRow10 HXa10 HXb10 HB10
  have hki : (k : Int) < N6 := by omega
  go_upto_region 15 with (first
    | (go_at_call 10; refine (CPT.out _).mono ?_; rintro e w' ⟨rfl, rfl⟩))
  clear HRow9 hcell hfr hxor HXa9 HXb9 HB9 CPT
  generalize w10.setCell _ _ = W10 at *
  have hb10 : (b6.set k y).length = N6 := by rw [List.length_set, HD1.out]
  have HD2 := Lk.mk hb10
  have HBt2 := Lk.mk (set_lt HBt.out hyl k)
  generalize b6.set k y = b7 at *
  clear hb10 hyl hxl
  have CP10 := Lk.mk (fun (W : World) (hL : Lies .u64 W W.heap.size (some ⟨g9, 0, none⟩) b7) => CP.out W b7 N6 (some ⟨g9, 0, none⟩) c9 L HD2.out (by omega) HBt2.out hc9 hc9' hL)
  have CQ10 := Lk.mk (fun (W : World) (hL : Lies .u64 W W.heap.size (some ⟨g9, 0, none⟩) b7) => CQ.out W b7 N6 (some ⟨g9, 0, none⟩) c9 L HD2.out (by omega) HBt2.out hc9 hc9' hL)
  generalize parseE b7 L = E8 at *
  generalize parseS b7 L = s8 at *
  have hnl8 : Lk ((parseL b7 L).length ≤ 4294967296) := ⟨by have := parseL_len b7 L; omega⟩
  generalize parseL b7 L = l8 at *
  obtain ⟨n8, hn8⟩ : ∃ n8, l8.length = n8 := ⟨_, rfl⟩
  rw [hn8] at CP10 CQ10 hnl8
  have HN8 := Lk.mk hn8
  clear hn8
  go_upto_region 16 with (first
    | (go_at_call 20; refine (CP10.out _ HRow10.out.lies).mono ?_; rintro e w11 ⟨A11, c11, rfl, HP11⟩; obtain ⟨p0, p1, p2, p3⟩ := two_cells (box_on HXa10.out HP11.out.below)))
  have HXa11 := Lk.mk (two_set _ _ (.int .i64 s8) (.slice A11 n8 c11) (box_on HXa10.out HP11.out.below))
  have HXb11 := Lk.mk ((two_other (w' := w11) (g := g7) (.int .i64 s8) (.slice A11 n8 c11) (show g8 ≠ g7 by have h1 := HG8.out; omega)).trans (box_on HXb10.out HP11.out.below))
  have HP11b := Lk.mk (pt_set (g := g7) (.int .i64 s8) (.slice A11 n8 c11) (Pt.lower HP11.out HB10.out (Nat.le_refl _)) (box_lt HXa10.out) HG7.out)
  have HRow11 := Lk.mk (row_set (.int .i64 s8) (.slice A11 n8 c11) (HRow10.out.on (Only.of_below (S := fun _ => False) HP11.out.below) (fun h => h)) (show g9 ≠ g7 by have h1 := HG8.out; have h2 := HG9.out; omega))
  have HSz : Lk (W10.heap.size ≤ w11.heap.size) := ⟨HP11.out.below.size⟩
  clear p0 p1 p2 p3 HP11 CP10
  have HGz : Lk (g8 < W10.heap.size) := ⟨box_lt HXb10.out⟩
  clear HXa10 HXb10 HRow10 HB10
  generalize (w11.setCell _ _).setCell _ _ = W11 at *
  go_upto_region 17 with (first
    | (go_at_call 21; refine (CQ10.out _ HRow11.out.lies).mono ?_; rintro e w12 ⟨A12, c12, rfl, HP12⟩; obtain ⟨p0, p1, p2, p3⟩ := two_cells (box_on HXb11.out HP12.out.below)))
  have HXb12 := Lk.mk (two_set _ _ (.int .i64 s8) (.slice A12 n8 c12) (box_on HXb11.out HP12.out.below))
  have HXa12 := Lk.mk ((two_other (w' := w12) (g := g8) (.int .i64 s8) (.slice A12 n8 c12) (show g7 ≠ g8 by have h1 := HG8.out; omega)).trans (box_on HXa11.out HP12.out.below))
  have HP12b := Lk.mk (pt_set (g := g8) (.int .i64 s8) (.slice A12 n8 c12) (Pt.lower HP12.out HP11b.out.below (Nat.le_refl _)) (box_lt HXb11.out) HGb.out)
  have HP11c := Lk.mk (pt_set (g := g8) (.int .i64 s8) (.slice A12 n8 c12) (HP11b.out.on HP12.out.below) HGz.out HGb.out)
  clear p0 p1 p2 p3 HP12 CQ10 HXa11 HXb11 HP11b HRow11 HSz HGz
  generalize (w12.setCell _ _).setCell _ _ = W12 at *
  obtain ⟨x0, x1, _, _⟩ := two_cells HXa12.out
  obtain ⟨y0, y1, _, _⟩ := two_cells HXb12.out
  have HQ0 := Lk.mk (show W12.drew.cell? ⟨g7, 0, none⟩ = some (.int .i64 s8) ∧ W12.drew.cell? ⟨g7, 1, none⟩ = some (.slice A11 n8 c11) ∧ W12.drew.cell? ⟨g8, 0, none⟩ = some (.int .i64 s8) ∧ W12.drew.cell? ⟨g8, 1, none⟩ = some (.slice A12 n8 c12) ∧ Lk (Below W12.heap.size W12 W12.drew) from ⟨x0, x1, y0, y1, ⟨(Below.refl _ _).drew⟩⟩)
  have CS9 := Lk.mk (fun (W : World) (hB : Below W12.heap.size W12 W) => CS.out s8 l8 n8 W A11 A12 c11 c12 HN8.out hnl8.out (pt_pgs (HP11c.out.on hB) HN8.out) (pt_pgs (HP12b.out.on hB) HN8.out))
  go_upto_region 17 with fail
  go_cut [127] (fun s wx => s = .bool false ∧ Lk (Below W12.heap.size W12 wx))
  case first =>
    go_region_held3 (fun W' => W'.cell? ⟨g7, 0, none⟩ = some (.int .i64 s8) ∧ W'.cell? ⟨g7, 1, none⟩ = some (.slice A11 n8 c11) ∧ W'.cell? ⟨g8, 0, none⟩ = some (.int .i64 s8) ∧ W'.cell? ⟨g8, 1, none⟩ = some (.slice A12 n8 c12) ∧ Lk (Below W12.heap.size W12 W')) (first | with_reducible exact HQ0.out | with_reducible assumption | with_reducible exact quad_on (by assumption) (by assumption))
      (first
        | (go_at_call 22; with_reducible refine (CO.out s8 A11 n8 c11 _).mono ?_; rintro e w10 ⟨rfl, H10⟩)
        | (go_at_call 16; with_reducible refine (CS9.out _ (quad_below (by assumption))).mono ?_; rintro e w11 ⟨rfl, H11⟩))
    all_goals have HB4 := quad_below (by assumption)
    all_goals go_wp2
    all_goals go_meet
    all_goals exact ⟨rfl, ⟨HB4⟩⟩
  obtain ⟨rfl, HBx⟩ := hcut
  clear x0 x1 y0 y1 HQ0 CS9 HN8 hnl8
  have HXa10 := Lk.mk (box_on HXa12.out HBx.out)
  have HXb10 := Lk.mk (box_on HXb12.out HBx.out)
  have HB10 := Lk.mk (btr HP11c.out.below HBx.out)
  clear HXa12 HXb12 HP11c HP12b HBx
  have HLw := Lk.mk ((HWs.out.below HB10.out).more HB10.out.size)
  have HGz : Lk (g8 < wc.heap.size) := ⟨box_lt HXb10.out⟩
  have CP10 := Lk.mk (fun (W : World) (hL : Lies .u64 W W.heap.size a2 words) => CP.out W words len2 a2 cap2 a3 hx1 (by omega) HWt.out hx2 hx4 hL)
  have CQ10 := Lk.mk (fun (W : World) (hL : Lies .u64 W W.heap.size a2 words) => CQ.out W words len2 a2 cap2 a3 hx1 (by omega) HWt.out hx2 hx4 hL)
  generalize parseE words a3 = E9 at *
  generalize parseS words a3 = s9 at *
  have hnl9 : Lk ((parseL words a3).length ≤ 4294967296) := ⟨by have := parseL_len words a3; omega⟩
  generalize parseL words a3 = l9 at *
  obtain ⟨n9, hn9⟩ : ∃ n9, l9.length = n9 := ⟨_, rfl⟩
  rw [hn9] at CP10 CQ10 hnl9
  have HN9 := Lk.mk hn9
  clear hn9 CP CQ
  go_upto_region 20 with (first
    | (go_at_call 20; refine (CP10.out _ HLw.out).mono ?_; rintro e w11 ⟨A11, c11, rfl, HP11⟩; obtain ⟨p0, p1, p2, p3⟩ := two_cells (box_on HXa10.out HP11.out.below)))
  have HXa11 := Lk.mk (two_set _ _ (.int .i64 s9) (.slice A11 n9 c11) (box_on HXa10.out HP11.out.below))
  have HXb11 := Lk.mk ((two_other (w' := w11) (g := g7) (.int .i64 s9) (.slice A11 n9 c11) (show g8 ≠ g7 by have h1 := HG8.out; omega)).trans (box_on HXb10.out HP11.out.below))
  have HP11b := Lk.mk (pt_set (g := g7) (.int .i64 s9) (.slice A11 n9 c11) (Pt.lower HP11.out HB10.out (Nat.le_refl _)) (box_lt HXa10.out) HG7.out)
  clear p0 p1 p2 p3 HP11 CP10 HLw HXa10 HXb10 HB10
  generalize (w11.setCell _ _).setCell _ _ = W11 at *
  have HLw := Lk.mk ((HWs.out.below HP11b.out.below).more HP11b.out.below.size)
  go_upto_region 21 with (first
    | (go_at_call 21; refine (CQ10.out _ HLw.out).mono ?_; rintro e w12 ⟨A12, c12, rfl, HP12⟩; obtain ⟨p0, p1, p2, p3⟩ := two_cells (box_on HXb11.out HP12.out.below)))
  have HXb12 := Lk.mk (two_set _ _ (.int .i64 s9) (.slice A12 n9 c12) (box_on HXb11.out HP12.out.below))
  have HXa12 := Lk.mk ((two_other (w' := w12) (g := g8) (.int .i64 s9) (.slice A12 n9 c12) (show g7 ≠ g8 by have h1 := HG8.out; omega)).trans (box_on HXa11.out HP12.out.below))
  have HP12b := Lk.mk (pt_set (g := g8) (.int .i64 s9) (.slice A12 n9 c12) (Pt.lower HP12.out HP11b.out.below (Nat.le_refl _)) (box_lt HXb11.out) HGb.out)
  have HP11c := Lk.mk (pt_set (g := g8) (.int .i64 s9) (.slice A12 n9 c12) (HP11b.out.on HP12.out.below) HGz.out HGb.out)
  clear p0 p1 p2 p3 HP12 CQ10 HXa11 HXb11 HP11b HGz HLw
  generalize (w12.setCell _ _).setCell _ _ = W12 at *
  obtain ⟨x0, x1, _, _⟩ := two_cells HXa12.out
  obtain ⟨y0, y1, _, _⟩ := two_cells HXb12.out
  have HQ0 := Lk.mk (show W12.drew.cell? ⟨g7, 0, none⟩ = some (.int .i64 s9) ∧ W12.drew.cell? ⟨g7, 1, none⟩ = some (.slice A11 n9 c11) ∧ W12.drew.cell? ⟨g8, 0, none⟩ = some (.int .i64 s9) ∧ W12.drew.cell? ⟨g8, 1, none⟩ = some (.slice A12 n9 c12) ∧ Lk (Below W12.heap.size W12 W12.drew) from ⟨x0, x1, y0, y1, ⟨(Below.refl _ _).drew⟩⟩)
  have CS9 := Lk.mk (fun (W : World) (hB : Below W12.heap.size W12 W) => CS.out s9 l9 n9 W A11 A12 c11 c12 HN9.out hnl9.out (pt_pgs (HP11c.out.on hB) HN9.out) (pt_pgs (HP12b.out.on hB) HN9.out))
  have hu : undef = Value.tuple #[] := rfl
  have HBw12 := Lk.mk HP11c.out.below
  go_region_held3 (fun W' => W'.cell? ⟨g7, 0, none⟩ = some (.int .i64 s9) ∧ W'.cell? ⟨g7, 1, none⟩ = some (.slice A11 n9 c11) ∧ W'.cell? ⟨g8, 0, none⟩ = some (.int .i64 s9) ∧ W'.cell? ⟨g8, 1, none⟩ = some (.slice A12 n9 c12) ∧ Lk (Below W12.heap.size W12 W')) (first | with_reducible exact HQ0.out | with_reducible assumption | with_reducible exact quad_on (by assumption) (by assumption))
    (first
      | (go_at_call 22; with_reducible refine (CO.out s9 A11 n9 c11 _).mono ?_; rintro e w10 ⟨rfl, H10⟩)
      | (go_at_call 16; with_reducible refine (CS9.out _ (quad_below (by assumption))).mono ?_; rintro e w11 ⟨rfl, H11⟩)
      | (go_at_call 17; with_reducible refine (CBn.out _).mono ?_; rintro e w13 ⟨v13, rfl, H13⟩; have HB13 := Lk.mk H13.out.below; obtain ⟨A13, c13, rfl, _, _, _⟩ := H13.out.form; simp only [List.length_nil]))
  all_goals have HB4 := quad_below (by assumption)
  all_goals go_wp2
  all_goals go_ret
  all_goals exact ⟨rfl, btr HBw12.out HB4⟩

set_option maxRecDepth 100000 in
theorem lifted (os : Os) (started : os.Started) (H : Type) (enc : TypeId × Value → H) :
    ReturnsInHanded {} Try.checked os 4 .any (Rows.logrecBodiesSpec.pre6 enc Try.prog Try.f4 Rows.logrecBodiesRow.domain false) (Rows.logrecBodiesSpec.post enc Try.prog Try.f4 false true false false) := by
  refine returnsInHanded_of_change (C := Try.checked) own started (by kernel_rfl) Try.func4
    (ChangeSpec.witness6 (enc := enc) (C := Try.checked) false ⟨#[], #[.int .i64 0, .slice none 0 0, .slice none 0 0, .int .i64 0, .int .i64 0, .int .u64 0, .slice none 0 0], []⟩ 8 (by kernel_rfl) (by kernel_rfl) (by kernel_rfl) (by kernel_rfl)) ?_
  intro W base args ds gs before hval0 hW hcnd _
  have hval : ∀ (j : Nat) t v, Try.f4.params[j]? = some t → args[j]? = some v → Value.okWide Try.prog W .any base t v := hval0
  have hW' := hW
  obtain ⟨p, q, hA0, hV, rfl, hfz, hnd⟩ := hW
  have hA : DataW.TrodAll enc Try.prog W 0 (fun _ => true) true Try.f4.params.toList args.toList ds p := hA0
  rw [Try.params4] at hA hval
  obtain ⟨v0, vs0, d0, ds0, p0, q0, hargs, rfl, rfl, h0, r0⟩ := trodAll_cons hA
  obtain ⟨v1, vs1, d1, ds1, p1, q1, rfl, rfl, rfl, h1, r1⟩ := trodAll_cons r0
  obtain ⟨v2, vs2, d2, ds2, p2, q2, rfl, rfl, rfl, h2, r2⟩ := trodAll_cons r1
  obtain ⟨v3, vs3, d3, ds3, p3, q3, rfl, rfl, rfl, h3, r3⟩ := trodAll_cons r2
  obtain ⟨v4, vs4, d4, ds4, p4, q4, rfl, rfl, rfl, h4, r4⟩ := trodAll_cons r3
  obtain ⟨v5, vs5, d5, ds5, p5, q5, rfl, rfl, rfl, h5, r5⟩ := trodAll_cons r4
  obtain ⟨v6, vs6, d6, ds6, p6, q6, rfl, rfl, rfl, h6, r6⟩ := trodAll_cons r5
  obtain ⟨rfl, rfl, rfl⟩ := trodAll_nil r6
  obtain rfl : args = #[v0, v1, v2, v3, v4, v5, v6] := by cases args; simp_all
  obtain ⟨rfl, rfl⟩ := trodVars_none hV
  obtain ⟨a0, rfl, rfl, rfl, w0⟩ := open_int Try.underlying3 (hval 0 3 v0 rfl rfl) h0
  obtain ⟨a1, len1, cap1, rfl⟩ := okWide_slice Try.underlying23 (hval 1 23 v1 rfl rfl)
  have k1 := h1
  have lt1 : ∀ x ∈ p1, x.block < W.heap.size := by obtain ⟨m, hm⟩ := k1; exact DataW.trod_lt m _ _ _ hm
  obtain ⟨z1, w1⟩ : ∃ zs, IsRow .i64 W a1 len1 cap1 zs := by
    obtain ⟨fuel, hf⟩ := h1
    exact nums_of hf
  obtain ⟨a2, len2, cap2, rfl⟩ := okWide_slice Try.underlying41 (hval 2 41 v2 rfl rfl)
  have k2 := h2
  have lt2 : ∀ x ∈ p2, x.block < W.heap.size := by obtain ⟨m, hm⟩ := k2; exact DataW.trod_lt m _ _ _ hm
  obtain ⟨z2, w2⟩ : ∃ zs, IsRow .u64 W a2 len2 cap2 zs := by
    obtain ⟨fuel, hf⟩ := h2
    rcases open_ints Try.underlying41 Try.underlying28 (by kernel_rfl) hf with ⟨hcs, _⟩ | ⟨x, l, c, zs, hcs, _, hl, hm, hz, _, hcell, hwz⟩
    · simp [Value.cells] at hcs
      obtain ⟨rfl, rfl, rfl⟩ := hcs
      exact ⟨[], .inl ⟨rfl, rfl, rfl, rfl⟩⟩
    · simp [Value.cells] at hcs
      obtain ⟨rfl, rfl, rfl⟩ := hcs
      exact ⟨zs, .inr ⟨_, rfl, hl, hm, by simpa using hz, hcell, hwz⟩⟩
  obtain ⟨a3, rfl, rfl, rfl, w3⟩ := open_int Try.underlying3 (hval 3 3 v3 rfl rfl) h3
  obtain ⟨a4, rfl, rfl, rfl, w4⟩ := open_int Try.underlying3 (hval 4 3 v4 rfl rfl) h4
  obtain ⟨a5, rfl, rfl, rfl, w5⟩ := open_int Try.underlying28 (hval 5 28 v5 rfl rfl) h5
  obtain ⟨a6, len6, cap6, rfl⟩ := okWide_slice Try.underlying41 (hval 6 41 v6 rfl rfl)
  have k6 := h6
  have lt6 : ∀ x ∈ p6, x.block < W.heap.size := by obtain ⟨m, hm⟩ := k6; exact DataW.trod_lt m _ _ _ hm
  obtain ⟨z6, w6⟩ : ∃ zs, IsRow .u64 W a6 len6 cap6 zs := by
    obtain ⟨fuel, hf⟩ := h6
    rcases open_ints Try.underlying41 Try.underlying28 (by kernel_rfl) hf with ⟨hcs, _⟩ | ⟨x, l, c, zs, hcs, _, hl, hm, hz, _, hcell, hwz⟩
    · simp [Value.cells] at hcs
      obtain ⟨rfl, rfl, rfl⟩ := hcs
      exact ⟨[], .inl ⟨rfl, rfl, rfl, rfl⟩⟩
    · simp [Value.cells] at hcs
      obtain ⟨rfl, rfl, rfl⟩ := hcs
      exact ⟨zs, .inr ⟨_, rfl, hl, hm, by simpa using hz, hcell, hwz⟩⟩
  clear hA0 hval0
  refine (walk a0 a1 len1 cap1 z1 a2 len2 cap2 z2 a3 a4 a5 a6 len6 cap6 z6 W w0 w1 w2 w3 w4 w5 w6).mono fun e W' ⟨he, bel⟩ => ?_
  subst he
  exact ⟨_, rfl, _, _, _, [], _, [], hW', trodAll_mk1 (shut_bool Try.underlying4 _), (trodAll_cons_mk (shut_int Try.underlying3 w0) (trodAll_cons_mk (Below.trod laidOut (by kernel_rfl) (of_decide_eq_true (by kernel_rfl)) k1 bel lt1) (trodAll_cons_mk (Below.trod laidOut (by kernel_rfl) (of_decide_eq_true (by kernel_rfl)) k2 bel lt2) (trodAll_cons_mk (shut_int Try.underlying3 w3) (trodAll_cons_mk (shut_int Try.underlying3 w4) (trodAll_cons_mk (shut_int Try.underlying28 w5) (trodAll_cons_mk (Below.trod laidOut (by kernel_rfl) (of_decide_eq_true (by kernel_rfl)) k6 bel lt6) trodAll_mk0))))))), rfl, bel.frame _, fun h => by cases h⟩

theorem over : Rows.logrecBodiesRow.holds Try.pinned (OpenSpec.ofChange Rows.logrecBodiesSpec) :=
  OpenClaim.holds_of_wide 4 Try.f4 rfl rfl rfl rfl rfl rfl rfl ⟨rfl, rfl, rfl, rfl, rfl⟩ rfl rfl rfl rfl rfl (by kernel_rfl) Try.func4 (by kernel_rfl)
    (of_decide_eq_true (by kernel_rfl)) (by unfold Func.isWrapper; first | (rw [if_pos (by decide +kernel)]; kernel_rfl) | (rw [if_neg (by decide +kernel)]; exact ⟨rfl, rfl⟩))
    (fun os started H enc _ => lifted os started H enc)

/-- ████ THE STATEMENT ████ -/
theorem proved : Rows.LogrecBodiesSaid := over
end Go.Proofs.Ytdodigfojbijfaa.logrecBodies
