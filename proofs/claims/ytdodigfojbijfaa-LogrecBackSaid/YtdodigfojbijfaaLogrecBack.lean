/-
  For every input LogrecBack returns true, and each argument reads afterwards as before: package logrec keeps the document here. No condition.
-/
import Derived.Test.YtdodigfojbijfaaRows
import Derived.Test.YtdodigfojbijfaaRx
import Derived.WalkKit
import Derived.ProofKit
import Derived.OpenShut
import Derived.ShutString
import Derived.ChangeOld
import Derived.Below
namespace Go.Proofs.Ytdodigfojbijfaa.logrecBack
open Go.ChangeShapes Go.WideShapes Go.ChangeAt Go.RowKit Ga Gb Ra Rb Rc Rd Re Rf Rg Rh Ri Rj Rk Rl Rm Rn Ro Rp Rr Rs Rt Un Rx
set_option linter.unusedSimpArgs false
set_option linter.unusedVariables false

theorem own : ownKnob Try.prog.godebug = none := by kernel_rfl
theorem laidOut : laidOutB Try.prog = true := of_decide_eq_true (by kernel_rfl)

set_option maxRecDepth 100000 in
set_option maxHeartbeats 1500000 in
theorem walk (a0 : Int) (a1 : Option Addr) (len1 cap1 : Nat) (z1 : List Int) (a2 : Option Addr) (len2 cap2 : Nat) (z2 : List Int) (a3 : Int) (a4 : Int) (w : World) (w0 : (Lit.int .i64 a0).wf = true) (w1 : IsRow .i64 w a1 len1 cap1 z1) (w2 : IsRow .u64 w a2 len2 cap2 z2) (w3 : (Lit.int .i64 a3).wf = true) (w4 : (Lit.int .u64 a4).wf = true) :
    Calls Try.prog 5 #[.int .i64 a0, .slice a1 len1 cap1, .slice a2 len2 cap2, .int .i64 a3, .int .u64 a4] w fun e w' => e = .returned (.bool true) ∧ Below w.heap.size w w' := by
  have hw0 := bounds_i64 w0
  have hw3 := bounds_i64 w3
  obtain ⟨by_, rfl, hby⟩ : ∃ b : Nat, a4 = (b : Int) ∧ b < 18446744073709551616 := ⟨a4.toNat, by have := bounds_u64 w4; omega, by have := bounds_u64 w4; omega⟩
  have hlen2 := w2.len
  have HLs := Lk.mk (w2.lies wf64)
  have HLt := Lk.mk (w2.lt wf64)
  generalize nats len2 z2 = more at *
  obtain ⟨hm1, hm2, hm3⟩ := hlen2
  obtain ⟨i0, hi, hz0, hz1, hz2⟩ := info_parts u64info
  go_enter Try.func5, Try.ntmps5
  by_cases hb1 : 20 < len1
  · have hb1i : (20 : Int) < len1 := by omega
    go_wp2
    go_ret
    exact ⟨rfl, Below.refl _ _⟩
  have hb1i : ¬ (20 : Int) < len1 := by omega
  by_cases hb2 : 60 < len2
  · have hb2i : (60 : Int) < len2 := by omega
    go_wp2
    go_ret
    exact ⟨rfl, Below.refl _ _⟩
  have hb2i : ¬ (60 : Int) < len2 := by omega
  have CR := Lk.mk (record_any a1 z1 len1 cap1 a0 200 w w1 (by omega) (by decide) hw0.1 hw0.2)
  have hv := recL_valid a0 200 (z1.take len1) (by decide)
  obtain ⟨hnice, hl1, hl2⟩ := recL_nice a0 200 (z1.take len1)
  have hwf := hnice.wf (by decide)
  have HCA := Lk.mk awake_any
  have CPk := Lk.mk (fun (T : Nat) (h1 : 1 ≤ (T : Int)) (h2 : (T : Int) ≤ 4294967296) W => pick_any a3 T W h1 h2 hw3.1 hw3.2)
  generalize recL a0 200 (z1.take len1) = l at *
  generalize recS a0 = s at *
  have hv256 := valid_more hv
  have hX : bodyX s l = bodyW s l := if_pos hv256
  have hT : (bodyW s l).length = 3 + 9 * l.length := bodyW_len s l
  have hblt := bodyW_lt hv256 hwf
  have hpb := parse_body hv256 more 200
  rw [if_pos (by decide), if_pos hv] at hpb
  obtain ⟨_, hub1, hub2⟩ := unp_body hv256 more
  obtain ⟨hp1, hp2⟩ := parse_yes hpb
  rw [hub1] at hp1
  rw [hub2] at hp2
  have hps := parse_short (lines := 200) hv256 (by decide)
  have hpc := fun (k x : Nat) (hk : k < (bodyW s l).length) (h1 : k ≠ 1) (hx : x < 18446744073709551616) (h : parseE ((bodyW s l).set k x) 200 = 0) => parse_changed (lines := 200) hv256 hwf hk h1 hx h
  have hp0 := parse_body hv256 [] 200
  rw [List.append_nil, if_pos (by decide), if_pos hv] at hp0
  obtain ⟨m, hm⟩ : ∃ m, l.length = m := ⟨_, rfl⟩
  rw [hm] at hT hps CR hl1 hl2
  have HWf := Lk.mk hwf
  have HM := Lk.mk hm
  have CB := Lk.mk (fun (W : World) (A : Option Addr) (c : Nat) (hP : Pgs W W.heap.size A l) => body_any s A l m c W HM.out (by omega) HWf ⟨hP⟩)
  rw [hX] at CB
  have CI := Lk.mk (fun (A : Option Addr) (c : Nat) W => in_any s A m c W)
  have CS := Lk.mk (fun (W : World) (A A' : Option Addr) (c c' : Nat) (hP : Pgs W W.heap.size A l) (hP' : Pgs W W.heap.size A' l) => same_any A A' l l m m c c' W s s HM.out HM.out (by omega) (by omega) ⟨hP⟩ ⟨hP'⟩)
  rw [show decide (s = s ∧ l = l) = true from by simp] at CS
  unfold rcv at CR CB CI CS
  generalize bodyW s l = bd at *
  obtain ⟨T, hTT⟩ : ∃ T, 3 + 9 * m = T := ⟨_, rfl⟩
  rw [hTT] at hT
  have hTb : 12 ≤ T ∧ T ≤ 111 := by omega
  rw [show 2 + 9 * m = T - 1 by omega] at hps
  have HT := Lk.mk hT
  have HBl := Lk.mk hblt
  have HPS := Lk.mk hps
  have HPC := Lk.mk hpc
  have HP0 := Lk.mk hp0
  have CP1 := Lk.mk (fun (W : World) (A : Option Addr) (c : Nat) (hc : T + len2 ≤ c) (hc2 : c ≤ 9223372036854775807) (hL : Lies .u64 W W.heap.size A (bd ++ more)) => parse_any A (bd ++ more) 200 (T + len2) c W (by rw [List.length_append, HT.out, hm1]) (by omega) hc hc2 ⟨fun x hx => (List.mem_append.1 hx).elim (HBl.out x) (HLt.out x)⟩ ⟨hL⟩)
  rw [hpb, hp1, hp2, hm] at CP1
  have CP2 := Lk.mk (fun (W : World) (A : Option Addr) (c : Nat) (hc : T ≤ c) (hc2 : c ≤ 9223372036854775807) (hL : Lies .u64 W W.heap.size A bd) => parse_any A (bd.take (T - 1)) 200 (T - 1) c W (by rw [List.length_take, HT.out]; omega) (by omega) (by omega) hc2 ⟨take_lt HBl.out _⟩ ⟨lies_take hL (by rw [HT.out]; omega)⟩)
  obtain ⟨hq1, hq2⟩ := parse_no (b := bd.take (T - 1)) (lines := 200) (by rw [hps]; decide)
  rw [hps, hq1, hq2] at CP2
  have CP3 := Lk.mk (fun (W : World) (b : List Nat) (A : Option Addr) (c : Nat) (hb : b.length = T) (hbl : ∀ x ∈ b, x < 18446744073709551616) (hc : T ≤ c) (hc2 : c ≤ 9223372036854775807) (hL : Lies .u64 W W.heap.size A b) => parse_any A b 200 T c W hb (by omega) hc hc2 ⟨hbl⟩ ⟨hL⟩)
  unfold rcv at CP1 CP2 CP3
  clear hpb hp1 hp2 hub1 hub2 hps hpc hp0 hq1 hq2 hblt hT hX hv256 hwf hnice hv hw0 w0 w1 w2 w3 w4 hTT hm hb1 hb2
  go_upto_region 4 with (first
    | (go_at_call 9; refine CR.out.mono ?_; rintro e w1 ⟨A1, c1, rfl, HP1⟩))
  have HR1 := Lk.mk (Br.start w1 s A1 m c1 25)
  have HB1 := Lk.mk (btr HP1.out.below (one_alloc w1 (.cells #[.int .i64 s, .slice A1 m c1] 25)))
  have HP2 := Lk.mk (HP1.out.on (one_alloc w1 (.cells #[.int .i64 s, .slice A1 m c1] 25)))
  obtain ⟨g1, hg1⟩ : ∃ g1, w1.heap.size = g1 := ⟨_, rfl⟩
  rw [hg1] at HR1 ⊢
  clear hg1 HP1 CR
  generalize w1.alloc _ = W1 at *
  have HPg := Lk.mk (fun (W : World) (hB : Below W1.heap.size W1 W) => (show Pgs W W.heap.size A1 l from by obtain ⟨A', c', e, _, _, hP⟩ := (HP2.out.on hB).form; rw [HM.out] at e; cases e; exact hP))
  have HRd := Lk.mk (fun (W : World) (hB : Below W1.heap.size W1 W) => (HR1.out.on hB))
  have r0 := HR1.out.c0
  have r1 := HR1.out.c1
  clear HP2 HR1
  go_upto_region 5 with (first
    | (go_at_call 13; refine (CI.out A1 c1 _).mono ?_; rintro e w2 ⟨rfl, H2⟩)
    | (go_at_call 17; refine (CB.out _ A1 c1 (HPg.out _ H2.out)).mono ?_; rintro e w3 ⟨v3, rfl, HW3⟩))
  have HB3 := Lk.mk (btr H2.out HW3.out.below)
  have hF := HW3.out.row (by rw [HT.out]; omega)
  rw [HT.out] at hF
  obtain ⟨g3, c3, rfl, hc3, hc3', hg3, hrow⟩ := hF
  have HRow3 := Lk.mk hrow
  clear hrow hg3 HW3 H2 r0 r1 CB
  have hTi : ¬ (T : Int) < 12 := by omega
  go_upto_region 7 with (first
    | (go_at_call 11; refine (HCA.out _).mono ?_; rintro e w4 ⟨rfl, H4⟩))
  have HB4 := Lk.mk (btr HB3.out H4.out)
  have HRow3sz : Lk (g3 < w4.heap.size) := ⟨by have h1 := HRow3.out.size; have h2 := H4.out.size; omega⟩
  have HRow4 := Lk.mk (HRow3.out.on (Only.of_below (S := fun _ => False) H4.out) (fun h => h))
  have HLs4 := Lk.mk ((HLs.out.below HB1.out).below (HB4.out.mono HB1.out.size) |>.more (by have h1 := HB1.out.size; have h2 := HB4.out.size; omega : w.heap.size ≤ w4.heap.size))
  clear HB3 H4 HRow3 HCA
  go_wp2_with (first
    | (at_builtin; refine wpList_onto rfl _ _ 41 rfl w4.heap.size 28 i0 (.int .u64 0) 1 8 Try.underlying41 hi hz0 hz1 hz2 rfl (by decide) (.slice none 0 0) 0 [] rfl (World.ownsRow_nil _ _ _ _) (some ⟨g3, 0, none⟩) T c3 (bd.map u64v) rfl (by have h := From.words HRow4.out.lies; rwa [HT.out] at h) (words_one _) ?c1 ?c2 (Nat.le_refl _) ?_))
  case c1 => unfold maxLen; omega
  case c2 => omega
  intro v5 w5 hown5 hgrow5
  have HW5 : Lk (Wt w4 w5 v5 bd) := ⟨⟨by rw [HT.out]; simpa using hown5, below_none hgrow5, HBl.out⟩⟩
  have HRow5 := Lk.mk (HRow4.out.on (Only.of_below (S := fun _ => False) HW5.out.below) (fun h => h))
  have HLs5 := Lk.mk ((HLs4.out.below HW5.out.below).more HW5.out.below.size)
  have hd1 : (bd ++ more).length = T + len2 := by rw [List.length_append, HT.out, hm1]
  have HD1 := Lk.mk hd1
  clear hown5 hgrow5 HRow4 HLs4 hd1
  go_wp2_with (first
    | (at_builtin; refine wpList_onto rfl _ _ 41 rfl w4.heap.size 28 i0 (.int .u64 0) 1 8 Try.underlying41 hi hz0 hz1 hz2 rfl (by decide) v5 bd.length (bd.map u64v) rfl HW5.out.own a2 len2 cap2 (more.map u64v) rfl (by have h := From.words HLs5.out; rwa [hm1] at h) (words_one _) ?d1 ?d2 HW5.out.below.size ?_))
  case d1 => rw [HT.out]; unfold maxLen; omega
  case d2 => rw [HT.out]; omega
  intro v6 w6 hown6 hgrow6
  have HW6 : Lk (Wt w4 w6 v6 (bd ++ more)) := ⟨HW5.out.after HLt.out (by rw [hm1]; exact hown6) hgrow6⟩
  have HRow6 := Lk.mk (HRow5.out.keep (hgrow6.block g3 (by have := HRow5.out.size; exact this) (fun e => by have h1 := (HW5.out.own.lt _ e.symm).1; have h2 := HB4.out; have h3 := HRow3sz.out; omega)))
  have hF6 := HW6.out.form
  rw [HD1.out] at hF6
  obtain ⟨A6, c6, rfl, hc6, hc6', hL6⟩ := hF6
  have HL6 := Lk.mk hL6
  have HB6 := Lk.mk (btr HB4.out HW6.out.below)
  clear hL6 hown6 hgrow6 HW5 HW6 HRow5 HLs5
  have hs1 := fun (w : World) => slice_headW (some ⟨g3, 0, none⟩) T c3 (T - 1) w (by omega)
  have hsi : ((T - 1 : Nat) : Int) = (T : Int) - 1 := by omega
  rw [hsi] at hs1
  have hs2 : (T : Int) - 1 ≤ c3 := by omega
  go_upto_region 8 with (first
    | (go_at_call 20; refine (CP1.out _ A6 c6 hc6 hc6' HL6.out).mono ?_; rintro e w7 ⟨A7, c7, rfl, HP7⟩))
  have HB7 := Lk.mk (btr (btr HB6.out HP7.out.below) (one_alloc w7 (.cells #[.int .i64 s, .slice A7 m c7] 35)))
  have HRow7 := Lk.mk ((HRow6.out.on (Only.of_below (S := fun _ => False) HP7.out.below) (fun h => h)).on (Only.of_below (S := fun _ => False) (one_alloc w7 (.cells #[.int .i64 s, .slice A7 m c7] 35))) (fun h => h))
  have HR7 := Lk.mk (Br.start w7 s A7 m c7 35)
  have HPt7 := Lk.mk (HP7.out.on (one_alloc w7 (.cells #[.int .i64 s, .slice A7 m c7] 35)))
  obtain ⟨g7, hg7⟩ : ∃ g7, w7.heap.size = g7 := ⟨_, rfl⟩
  rw [hg7] at HR7 ⊢
  clear hg7 HP7 HRow6 HL6 CP1
  generalize w7.alloc _ = W7 at *
  have HPg7 := Lk.mk (fun (W : World) (hB : Below W7.heap.size W7 W) => (show Pgs W W.heap.size A7 l from by obtain ⟨A', c', e, _, _, hP⟩ := (HPt7.out.on hB).form; rw [HM.out] at e; cases e; exact hP))
  have HRd7 := Lk.mk (fun (W : World) (hB : Below W7.heap.size W7 W) => (HR7.out.on hB))
  clear HPt7 HR7
  go_upto_region 9 with (first
    | (go_at_call 20; refine (CP2.out _ (some ⟨g3, 0, none⟩) c3 hc3 hc3' (by have h := HRow7.out.lies; exact h)).mono ?_; rintro e w8 ⟨A8, c8, rfl, HP8⟩))
  have HB8 := Lk.mk (btr HP8.out.below (one_alloc w8 (.cells #[.int .i64 0, .slice A8 0 c8] 35)))
  have HRow8 := Lk.mk ((HRow7.out.on (Only.of_below (S := fun _ => False) HP8.out.below) (fun h => h)).on (Only.of_below (S := fun _ => False) (one_alloc w8 (.cells #[.int .i64 0, .slice A8 0 c8] 35))) (fun h => h))
  clear HP8 HRow7 CP2 hs1 hs2 hsi
  generalize w8.alloc _ = W8 at *
  go_wp2_with (first
    | (at_builtin; refine wpList_onto rfl _ _ 41 rfl W8.heap.size 28 i0 (.int .u64 0) 1 8 Try.underlying41 hi hz0 hz1 hz2 rfl (by decide) (.slice none 0 0) 0 [] rfl (World.ownsRow_nil _ _ _ _) (some ⟨g3, 0, none⟩) T c3 (bd.map u64v) rfl (by have h := From.words HRow8.out.lies; rwa [HT.out] at h) (words_one _) ?e1 ?e2 (Nat.le_refl _) ?_))
  case e1 => unfold maxLen; omega
  case e2 => omega
  intro v9 w9 hown9 hgrow9
  have HW9 : Lk (Wt W8 w9 v9 bd) := ⟨⟨by rw [HT.out]; simpa using hown9, below_none hgrow9, HBl.out⟩⟩
  have hF9 := HW9.out.row (by rw [HT.out]; omega)
  rw [HT.out] at hF9
  obtain ⟨g9, c9, rfl, hc9, hc9', hg9, hrow9⟩ := hF9
  have HRow9 := Lk.mk hrow9
  have HG9 := Lk.mk hg9
  have HB9 := Lk.mk (btr HB8.out HW9.out.below)
  have CPT := Lk.mk (CPk.out T (by omega) (by omega))
  have hk := pk_lt a3 (T : Int) (by omega)
  generalize pk a3 (T : Int) = k at *
  have hkT : k < T := by omega
  have hcell := HRow9.out.cell (j := k) hkT
  have hfr := HRow9.out.free k
  have hxl := getD_lt HRow9.out.lt (k := k) (by rw [HT.out]; exact hkT)
  have HPCk := Lk.mk (fun (x : Nat) (h1 : k ≠ 1) (hx : x < 18446744073709551616) (h : parseE (bd.set k x) 200 = 0) => HPC.out k x (by rw [HT.out]; exact hkT) h1 hx h)
  have hwd : wd bd k = bd.getD k 0 := rfl
  rw [hwd] at HPCk
  have HSame := Lk.mk (show bd.set k (bd.getD k 0) = bd from by
    rw [List.getD_eq_getElem?_getD, List.getElem?_eq_getElem (by rw [HT.out]; exact hkT)]
    exact List.set_getElem_self _)
  obtain ⟨x, hxx⟩ : ∃ x, bd.getD k 0 = x := ⟨_, rfl⟩
  rw [hxx] at hcell hxl HPCk HSame
  have HGs : Lk (W7.heap.size ≤ g9) := ⟨Nat.le_trans HB8.out.size HG9.out⟩
  clear hxx hwd hown9 hgrow9 hrow9 hg9 HRow8 HPC HB8 CPk HW9
  have hxor := xor_nat x by_ hxl hby
  have hyl := xor_lt hxl hby
  have HYe := Lk.mk (show x ^^^ by_ = x ↔ by_ = 0 from ⟨fun h => by
    have h2 : x ^^^ (x ^^^ by_) = x ^^^ x := by rw [h]
    rw [← Nat.xor_assoc, Nat.xor_self, Nat.zero_xor] at h2
    exact h2, fun h => by rw [h, Nat.xor_zero]⟩)
  generalize x ^^^ by_ = y at *
  have HRow10 := Lk.mk (HRow9.out.set k y hyl)
  have HO10 := Lk.mk ((Only.refl (fun i => i = g9) w9).setCell (p := ⟨g9, k, none⟩) (.inl rfl) (u64v y))
  unfold u64v at HRow10 HO10
  have hki : (k : Int) < T := by omega
  go_upto_region 12 with (first
    | (go_at_call 10; refine (CPT.out _).mono ?_; rintro e w' ⟨rfl, rfl⟩))
  have HB10 := Lk.mk (HB9.out.setCell (p := ⟨g9, k, none⟩) HGs.out (.int .u64 (y : Int)))
  clear HO10 HB9 HRow9 hcell hfr hxor
  generalize w9.setCell _ _ = w10 at *
  have hbl10 : (bd.set k y).length = T := by rw [List.length_set, HT.out]
  have HFin : Lk (k = 1 ∨ ((parseE (bd.set k y) 200 == 14) = !((by_ : Int) == 0))) := ⟨by
    by_cases h1 : k = 1
    · exact .inl h1
    · right
      by_cases hb : by_ = 0
      · rw [HYe.out.2 hb, HSame.out, HP0.out, hb]; rfl
      · have hne : parseE (bd.set k y) 200 ≠ 0 := fun h => hb (HYe.out.1 (HPCk.out y h1 hyl h))
        rcases parse_cases (bd.set k y) with h | h
        · exact absurd h hne
        · have : ((by_ : Int) == 0) = false := by simp [hb]
          rw [h, this]; rfl⟩
  have CP4 := Lk.mk (CP3.out w10 (bd.set k y) (some ⟨g9, 0, none⟩) c9 hbl10 (set_lt HBl.out hyl k) hc9 hc9' HRow10.out.lies)
  clear CP3 HPCk HSame HP0 HYe hbl10
  generalize parseE (bd.set k y) 200 = E at *
  generalize parseS (bd.set k y) 200 = s9 at *
  generalize (parseL (bd.set k y) 200) = l9 at *
  go_upto_region 13 with (first
    | (go_at_call 20; refine CP4.out.mono ?_; rintro e w11 ⟨A11, c11, rfl, HP11⟩))
  have HB11 := Lk.mk (btr (btr HB10.out HP11.out.below) (one_alloc w11 (.cells #[.int .i64 s9, .slice A11 l9.length c11] 35)))
  clear HP11 HB10 HRow10 CP4
  generalize w11.alloc _ = W11 at *
  have HB1b := Lk.mk (btr HB7.out HB11.out)
  have HQ0 := Lk.mk (show W11.drew.cell? ⟨g7, 0, none⟩ = some (.int .i64 s) ∧ W11.drew.cell? ⟨g7, 1, none⟩ = some (.slice A7 m c7) ∧ W11.drew.cell? ⟨g1, 0, none⟩ = some (.int .i64 s) ∧ W11.drew.cell? ⟨g1, 1, none⟩ = some (.slice A1 m c1) ∧ Lk (Below W11.heap.size W11 W11.drew) from ⟨(HRd7.out _ HB11.out).c0, (HRd7.out _ HB11.out).c1, (HRd.out _ HB1b.out).c0, (HRd.out _ HB1b.out).c1, ⟨(Below.refl _ _).drew⟩⟩)
  have CSx := Lk.mk (fun (W : World) (hB : Below W11.heap.size W11 W) => CS.out W A7 A1 c7 c1 (HPg7.out W (btr HB11.out hB)) (HPg.out W (btr HB1b.out hB)))
  have HW1 := Lk.mk (btr HB1.out HB1b.out)
  clear HRd7 HRd HPg7 HPg CS HB11 HB1b
  have hu : undef = Value.tuple #[] := rfl
  by_cases h1 : k = 1
  · subst h1
    refine wp_region_held_drew (S := fun W' => W'.cell? ⟨g7, 0, none⟩ = some (.int .i64 s) ∧ W'.cell? ⟨g7, 1, none⟩ = some (.slice A7 m c7) ∧ W'.cell? ⟨g1, 0, none⟩ = some (.int .i64 s) ∧ W'.cell? ⟨g1, 1, none⟩ = some (.slice A1 m c1) ∧ Lk (Below W11.heap.size W11 W')) (by kernel_rfl) HQ0.out (fun hHeld => ?_)
    refine wpAnyH_take (i := 0) (v := ?_) (by simp only [List.getElem?_toArray, List.getElem?_cons_succ, List.getElem?_cons_zero] <;> rfl) (by kernel_rfl) (by kernel_rfl) (by kernel_rfl) (by exact fun _ _ _ h => h) (Or.inl ⟨by rfl, ?_⟩) (by assumption) ?_
    rotate_left
    · (intro w' hSw; (try dsimp only at hSw); go_simp <;> with_reducible rfl)
    (try simp only [Act.put, List.setIfInBounds_toArray, List.set_cons_zero, List.set_cons_succ])
    refine wpAnyH_take (i := 1) (v := ?_) (by simp only [List.getElem?_toArray, List.getElem?_cons_succ, List.getElem?_cons_zero] <;> rfl) (by kernel_rfl) (by kernel_rfl) (by kernel_rfl) (by exact fun _ _ _ h => h) (Or.inl ⟨by rfl, ?_⟩) (by assumption) ?_
    rotate_left
    · (intro w' hSw; (try dsimp only at hSw); go_simp <;> with_reducible rfl)
    (try simp only [Act.put, List.setIfInBounds_toArray, List.set_cons_zero, List.set_cons_succ])
    refine wpAnyH_take (i := 2) (v := ?_) (by simp only [List.getElem?_toArray, List.getElem?_cons_succ, List.getElem?_cons_zero] <;> rfl) (by kernel_rfl) (by kernel_rfl) (by kernel_rfl) (by exact fun _ _ _ h => h) (Or.inl ⟨by rfl, ?_⟩) (by assumption) ?_
    rotate_left
    · (intro w' hSw; (try dsimp only at hSw); go_simp <;> with_reducible rfl)
    (try simp only [Act.put, List.setIfInBounds_toArray, List.set_cons_zero, List.set_cons_succ])
    refine wpAnyH_take (i := 3) (v := ?_) (by simp only [List.getElem?_toArray, List.getElem?_cons_succ, List.getElem?_cons_zero] <;> rfl) (by kernel_rfl) (by kernel_rfl) (by kernel_rfl) (by exact fun _ _ _ h => h) (Or.inl ⟨by rfl, ?_⟩) (by assumption) ?_
    rotate_left
    · (intro w' hSw; (try dsimp only at hSw); go_simp <;> with_reducible rfl)
    (try simp only [Act.put, List.setIfInBounds_toArray, List.set_cons_zero, List.set_cons_succ])
    refine wpAnyH_take (i := 4) (v := ?_) (by simp only [List.getElem?_toArray, List.getElem?_cons_succ, List.getElem?_cons_zero] <;> rfl) (by kernel_rfl) (by kernel_rfl) (by kernel_rfl) (by exact fun _ _ _ h => h) (Or.inl ⟨by rfl, ?_⟩) (by assumption) ?_
    rotate_left
    · (intro w' hSw; (try dsimp only at hSw); go_simp <;> with_reducible rfl)
    (try simp only [Act.put, List.setIfInBounds_toArray, List.set_cons_zero, List.set_cons_succ])
    refine wpAnyH_ready (rs := [5]) (by kernel_rfl) (by simp) ?_
    refine AllReadyH.cons rfl (fun K hK => ?_) AllReadyH.nil
    go_simp
    go_at_call 13
    with_reducible refine (CI.out A1 c1 _).mono ?_
    rintro e w12 ⟨rfl, H12⟩
    refine hK.out _ _ ?_ (fun hHeld => ?_)
    · exact quad_on (by assumption) (by assumption)
    clear hK K
    (try simp only [Act.put, List.setIfInBounds_toArray, List.set_cons_zero, List.set_cons_succ])
    refine wpAnyH_ready (rs := [6]) (by kernel_rfl) (by simp) ?_
    refine AllReadyH.cons rfl (fun K hK => ?_) AllReadyH.nil
    go_simp
    go_at_call 15
    with_reducible refine (CSx.out _ (quad_below (by assumption))).mono ?_
    rintro e w13 ⟨rfl, H13⟩
    refine hK.out _ _ ?_ (fun hHeld => ?_)
    · exact quad_on (by assumption) (by assumption)
    clear hK K
    (try simp only [Act.put, List.setIfInBounds_toArray, List.set_cons_zero, List.set_cons_succ])
    refine wpAnyH_take (i := 7) (v := ?_) (by simp only [List.getElem?_toArray, List.getElem?_cons_succ, List.getElem?_cons_zero] <;> rfl) (by kernel_rfl) (by kernel_rfl) (by kernel_rfl) (by exact fun _ _ _ h => h) (Or.inl ⟨by rfl, ?_⟩) (by assumption) ?_
    rotate_left
    · (intro w' hSw; (try dsimp only at hSw); go_simp <;> with_reducible rfl)
    (try simp only [Act.put, List.setIfInBounds_toArray, List.set_cons_zero, List.set_cons_succ])
    refine wpAnyH_take (i := 8) (v := ?_) (by simp only [List.getElem?_toArray, List.getElem?_cons_succ, List.getElem?_cons_zero] <;> rfl) (by kernel_rfl) (by kernel_rfl) (by kernel_rfl) (by exact fun _ _ _ h => h) (Or.inl ⟨by rfl, ?_⟩) (by assumption) ?_
    rotate_left
    · (intro w' hSw; (try dsimp only at hSw); go_simp <;> with_reducible rfl)
    (try simp only [Act.put, List.setIfInBounds_toArray, List.set_cons_zero, List.set_cons_succ])
    refine wpAnyH_take (i := 9) (v := ?_) (by simp only [List.getElem?_toArray, List.getElem?_cons_succ, List.getElem?_cons_zero] <;> rfl) (by kernel_rfl) (by kernel_rfl) (by kernel_rfl) (by exact fun _ _ _ h => h) (Or.inl ⟨by rfl, ?_⟩) (by assumption) ?_
    rotate_left
    · (intro w' hSw; (try dsimp only at hSw); go_simp <;> with_reducible rfl)
    (try simp only [Act.put, List.setIfInBounds_toArray, List.set_cons_zero, List.set_cons_succ])
    refine wpAnyH_take (i := 10) (v := ?_) (by simp only [List.getElem?_toArray, List.getElem?_cons_succ, List.getElem?_cons_zero] <;> rfl) (by kernel_rfl) (by kernel_rfl) (by kernel_rfl) (by exact fun _ _ _ h => h) (Or.inl ⟨by rfl, ?_⟩) (by assumption) ?_
    rotate_left
    · (intro w' hSw; (try dsimp only at hSw); go_simp <;> with_reducible rfl)
    (try simp only [Act.put, List.setIfInBounds_toArray, List.set_cons_zero, List.set_cons_succ])
    refine wpAnyH_take (i := 11) (v := ?_) (by simp only [List.getElem?_toArray, List.getElem?_cons_succ, List.getElem?_cons_zero] <;> rfl) (by kernel_rfl) (by kernel_rfl) (by kernel_rfl) (by exact fun _ _ _ h => h) (Or.inl ⟨by rfl, ?_⟩) (by assumption) ?_
    rotate_left
    · (intro w' hSw; (try dsimp only at hSw); go_simp <;> with_reducible rfl)
    (try simp only [Act.put, List.setIfInBounds_toArray, List.set_cons_zero, List.set_cons_succ])
    refine wpAnyH_take (i := 12) (v := ?_) (by simp only [List.getElem?_toArray, List.getElem?_cons_succ, List.getElem?_cons_zero] <;> rfl) (by kernel_rfl) (by kernel_rfl) (by kernel_rfl) (by exact fun _ _ _ h => h) (Or.inl ⟨by rfl, ?_⟩) (by assumption) ?_
    rotate_left
    · (intro w' hSw; (try dsimp only at hSw); go_simp <;> with_reducible rfl)
    (try simp only [Act.put, List.setIfInBounds_toArray, List.set_cons_zero, List.set_cons_succ])
    refine wpAnyH_take (i := 13) (v := ?_) (by simp only [List.getElem?_toArray, List.getElem?_cons_succ, List.getElem?_cons_zero] <;> rfl) (by kernel_rfl) (by kernel_rfl) (by kernel_rfl) (by exact fun _ _ _ h => h) (Or.inl ⟨by rfl, ?_⟩) (by assumption) ?_
    rotate_left
    · (intro w' hSw; (try dsimp only at hSw); go_simp <;> with_reducible rfl)
    (try simp only [Act.put, List.setIfInBounds_toArray, List.set_cons_zero, List.set_cons_succ])
    refine wpAnyH_take (i := 14) (v := ?_) (by simp only [List.getElem?_toArray, List.getElem?_cons_succ, List.getElem?_cons_zero] <;> rfl) (by kernel_rfl) (by kernel_rfl) (by kernel_rfl) (by exact fun _ _ _ h => h) (Or.inl ⟨by rfl, ?_⟩) (by assumption) ?_
    rotate_left
    · (intro w' hSw; (try dsimp only at hSw); go_simp <;> with_reducible rfl)
    (try simp only [Act.put, List.setIfInBounds_toArray, List.set_cons_zero, List.set_cons_succ])
    refine wpAnyH_take (i := 15) (v := ?_) (by simp only [List.getElem?_toArray, List.getElem?_cons_succ, List.getElem?_cons_zero] <;> rfl) (by kernel_rfl) (by kernel_rfl) (by kernel_rfl) (by exact fun _ _ _ h => h) (Or.inl ⟨by rfl, ?_⟩) (by assumption) ?_
    rotate_left
    · (intro w' hSw; (try dsimp only at hSw); go_simp <;> with_reducible rfl)
    (try simp only [Act.put, List.setIfInBounds_toArray, List.set_cons_zero, List.set_cons_succ])
    refine wpAnyH_take (i := 16) (v := undef) (by simp only [List.getElem?_toArray, List.getElem?_cons_succ, List.getElem?_cons_zero] <;> rfl) (by kernel_rfl) (by kernel_rfl) (by kernel_rfl) (by exact fun _ _ _ h => h) (Or.inr ⟨by rfl, rfl⟩) (by assumption) ?_
    (try simp only [Act.put, List.setIfInBounds_toArray, List.set_cons_zero, List.set_cons_succ])
    refine wpAnyH_take (i := 17) (v := undef) (by simp only [List.getElem?_toArray, List.getElem?_cons_succ, List.getElem?_cons_zero] <;> rfl) (by kernel_rfl) (by kernel_rfl) (by kernel_rfl) (by exact fun _ _ _ h => h) (Or.inr ⟨by rfl, rfl⟩) (by assumption) ?_
    (try simp only [Act.put, List.setIfInBounds_toArray, List.set_cons_zero, List.set_cons_succ])
    refine wpAnyH_take (i := 18) (v := undef) (by simp only [List.getElem?_toArray, List.getElem?_cons_succ, List.getElem?_cons_zero] <;> rfl) (by kernel_rfl) (by kernel_rfl) (by kernel_rfl) (by exact fun _ _ _ h => h) (Or.inr ⟨by rfl, rfl⟩) (by assumption) ?_
    (try simp only [Act.put, List.setIfInBounds_toArray, List.set_cons_zero, List.set_cons_succ])
    refine wpAnyH_take (i := 19) (v := undef) (by simp only [List.getElem?_toArray, List.getElem?_cons_succ, List.getElem?_cons_zero] <;> rfl) (by kernel_rfl) (by kernel_rfl) (by kernel_rfl) (by exact fun _ _ _ h => h) (Or.inr ⟨by rfl, rfl⟩) (by assumption) ?_
    (try simp only [Act.put, List.setIfInBounds_toArray, List.set_cons_zero, List.set_cons_succ])
    refine wpAnyH_take (i := 20) (v := undef) (by simp only [List.getElem?_toArray, List.getElem?_cons_succ, List.getElem?_cons_zero] <;> rfl) (by kernel_rfl) (by kernel_rfl) (by kernel_rfl) (by exact fun _ _ _ h => h) (Or.inr ⟨by rfl, rfl⟩) (by assumption) ?_
    (try simp only [Act.put, List.setIfInBounds_toArray, List.set_cons_zero, List.set_cons_succ])
    refine wpAnyH_take (i := 21) (v := ?_) (by simp only [List.getElem?_toArray, List.getElem?_cons_succ, List.getElem?_cons_zero] <;> rfl) (by kernel_rfl) (by kernel_rfl) (by kernel_rfl) (by exact fun _ _ _ h => h) (Or.inl ⟨by rfl, ?_⟩) (by assumption) ?_
    rotate_left
    · (intro w' hSw; (try dsimp only at hSw); go_simp <;> with_reducible rfl)
    (try simp only [Act.put, List.setIfInBounds_toArray, List.set_cons_zero, List.set_cons_succ])
    refine wpAnyH_take (i := 22) (v := ?_) (by simp only [List.getElem?_toArray, List.getElem?_cons_succ, List.getElem?_cons_zero] <;> rfl) (by kernel_rfl) (by kernel_rfl) (by kernel_rfl) (by exact fun _ _ _ h => h) (Or.inl ⟨by rfl, ?_⟩) (by assumption) ?_
    rotate_left
    · (intro w' hSw; (try dsimp only at hSw); go_simp <;> with_reducible rfl)
    (try simp only [Act.put, List.setIfInBounds_toArray, List.set_cons_zero, List.set_cons_succ])
    refine wpAnyH_take (i := 23) (v := ?_) (by simp only [List.getElem?_toArray, List.getElem?_cons_succ, List.getElem?_cons_zero] <;> rfl) (by kernel_rfl) (by kernel_rfl) (by kernel_rfl) (by exact fun _ _ _ h => h) (Or.inl ⟨by rfl, ?_⟩) (by assumption) ?_
    rotate_left
    · (intro w' hSw; (try dsimp only at hSw); go_simp <;> with_reducible rfl)
    (try simp only [Act.put, List.setIfInBounds_toArray, List.set_cons_zero, List.set_cons_succ])
    refine wpAnyH_done (by kernel_rfl) ?_ _
    all_goals have HB13 := quad_below (by assumption)
    all_goals go_wp2
    all_goals go_ret
    all_goals exact ⟨rfl, btr HW1.out HB13⟩
  · have hk1 : ((k : Int) == 1) = false := by rw [beq_eq_false_iff_ne]; omega
    have hE : (E == 14) = !((by_ : Int) == 0) := by
      rcases HFin.out with h | h
      · exact absurd h h1
      · exact h
    go_region_held3 (fun W' => W'.cell? ⟨g7, 0, none⟩ = some (.int .i64 s) ∧ W'.cell? ⟨g7, 1, none⟩ = some (.slice A7 m c7) ∧ W'.cell? ⟨g1, 0, none⟩ = some (.int .i64 s) ∧ W'.cell? ⟨g1, 1, none⟩ = some (.slice A1 m c1) ∧ Lk (Below W11.heap.size W11 W')) (first | with_reducible exact HQ0.out | with_reducible assumption | with_reducible exact quad_on (by assumption) (by assumption))
      (first
        | (go_at_call 13; with_reducible refine (CI.out A1 c1 _).mono ?_; rintro e w12 ⟨rfl, H12⟩)
        | (go_at_call 15; with_reducible refine (CSx.out _ (quad_below (by assumption))).mono ?_; rintro e w13 ⟨rfl, H13⟩))
    all_goals have HB13 := quad_below (by assumption)
    all_goals go_wp2
    all_goals go_ret
    all_goals exact ⟨ret_bool (by simp [bne]), btr HW1.out HB13⟩

set_option maxRecDepth 100000 in
theorem lifted (os : Os) (started : os.Started) (H : Type) (enc : TypeId × Value → H) :
    ReturnsInHanded {} Try.checked os 5 .any (Rows.logrecBackSpec.pre6 enc Try.prog Try.f5 Rows.logrecBackRow.domain false) (Rows.logrecBackSpec.post enc Try.prog Try.f5 false true false false) := by
  refine returnsInHanded_of_change (C := Try.checked) own started (by kernel_rfl) Try.func5
    (ChangeSpec.witness6 (enc := enc) (C := Try.checked) false ⟨#[], #[.int .i64 0, .slice none 0 0, .slice none 0 0, .int .i64 0, .int .u64 0], []⟩ 8 (by kernel_rfl) (by kernel_rfl) (by kernel_rfl) (by kernel_rfl)) ?_
  intro W base args ds gs before hval0 hW hcnd _
  have hval : ∀ (j : Nat) t v, Try.f5.params[j]? = some t → args[j]? = some v → Value.okWide Try.prog W .any base t v := hval0
  have hW' := hW
  obtain ⟨p, q, hA0, hV, rfl, hfz, hnd⟩ := hW
  have hA : DataW.TrodAll enc Try.prog W 0 (fun _ => true) true Try.f5.params.toList args.toList ds p := hA0
  rw [Try.params5] at hA hval
  obtain ⟨v0, vs0, d0, ds0, p0, q0, hargs, rfl, rfl, h0, r0⟩ := trodAll_cons hA
  obtain ⟨v1, vs1, d1, ds1, p1, q1, rfl, rfl, rfl, h1, r1⟩ := trodAll_cons r0
  obtain ⟨v2, vs2, d2, ds2, p2, q2, rfl, rfl, rfl, h2, r2⟩ := trodAll_cons r1
  obtain ⟨v3, vs3, d3, ds3, p3, q3, rfl, rfl, rfl, h3, r3⟩ := trodAll_cons r2
  obtain ⟨v4, vs4, d4, ds4, p4, q4, rfl, rfl, rfl, h4, r4⟩ := trodAll_cons r3
  obtain ⟨rfl, rfl, rfl⟩ := trodAll_nil r4
  obtain rfl : args = #[v0, v1, v2, v3, v4] := by cases args; simp_all
  obtain ⟨rfl, rfl⟩ := trodVars_none hV
  obtain ⟨a0, rfl, rfl, rfl, w0⟩ := open_int Try.underlying3 (hval 0 3 v0 rfl rfl) h0
  obtain ⟨a1, len1, cap1, rfl⟩ := okWide_slice Try.underlying23 (hval 1 23 v1 rfl rfl)
  have k1 := h1
  have lt1 : ∀ x ∈ p1, x.block < W.heap.size := by obtain ⟨m, hm⟩ := k1; exact DataW.trod_lt m _ _ _ hm
  obtain ⟨z1, w1⟩ : ∃ zs, IsRow .i64 W a1 len1 cap1 zs := by
    obtain ⟨fuel, hf⟩ := h1
    exact nums_of hf
  obtain ⟨a2, len2, cap2, rfl⟩ := okWide_slice Try.underlying41 (hval 2 41 v2 rfl rfl)
  have k2 := h2
  have lt2 : ∀ x ∈ p2, x.block < W.heap.size := by obtain ⟨m, hm⟩ := k2; exact DataW.trod_lt m _ _ _ hm
  obtain ⟨z2, w2⟩ : ∃ zs, IsRow .u64 W a2 len2 cap2 zs := by
    obtain ⟨fuel, hf⟩ := h2
    rcases open_ints Try.underlying41 Try.underlying28 (by kernel_rfl) hf with ⟨hcs, _⟩ | ⟨x, l, c, zs, hcs, _, hl, hm, hz, _, hcell, hwz⟩
    · simp [Value.cells] at hcs
      obtain ⟨rfl, rfl, rfl⟩ := hcs
      exact ⟨[], .inl ⟨rfl, rfl, rfl, rfl⟩⟩
    · simp [Value.cells] at hcs
      obtain ⟨rfl, rfl, rfl⟩ := hcs
      exact ⟨zs, .inr ⟨_, rfl, hl, hm, by simpa using hz, hcell, hwz⟩⟩
  obtain ⟨a3, rfl, rfl, rfl, w3⟩ := open_int Try.underlying3 (hval 3 3 v3 rfl rfl) h3
  obtain ⟨a4, rfl, rfl, rfl, w4⟩ := open_int Try.underlying28 (hval 4 28 v4 rfl rfl) h4
  clear hA0 hval0
  refine (walk a0 a1 len1 cap1 z1 a2 len2 cap2 z2 a3 a4 W w0 w1 w2 w3 w4).mono fun e W' ⟨he, bel⟩ => ?_
  subst he
  exact ⟨_, rfl, _, _, _, [], _, [], hW', trodAll_mk1 (shut_bool Try.underlying4 _), (trodAll_cons_mk (shut_int Try.underlying3 w0) (trodAll_cons_mk (Below.trod laidOut (by kernel_rfl) (of_decide_eq_true (by kernel_rfl)) k1 bel lt1) (trodAll_cons_mk (Below.trod laidOut (by kernel_rfl) (of_decide_eq_true (by kernel_rfl)) k2 bel lt2) (trodAll_cons_mk (shut_int Try.underlying3 w3) (trodAll_cons_mk (shut_int Try.underlying28 w4) trodAll_mk0))))), rfl, bel.frame _, fun h => by cases h⟩

theorem over : Rows.logrecBackRow.holds Try.pinned (OpenSpec.ofChange Rows.logrecBackSpec) :=
  OpenClaim.holds_of_wide 5 Try.f5 rfl rfl rfl rfl rfl rfl rfl ⟨rfl, rfl, rfl, rfl, rfl⟩ rfl rfl rfl rfl rfl (by kernel_rfl) Try.func5 (by kernel_rfl)
    (of_decide_eq_true (by kernel_rfl)) (by unfold Func.isWrapper; first | (rw [if_pos (by decide +kernel)]; kernel_rfl) | (rw [if_neg (by decide +kernel)]; exact ⟨rfl, rfl⟩))
    (fun os started H enc _ => lifted os started H enc)

/-- ████ THE STATEMENT ████ -/
theorem proved : Rows.LogrecBackSaid := over
end Go.Proofs.Ytdodigfojbijfaa.logrecBack
