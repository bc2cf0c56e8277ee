/-
  For every input LayoutFormatsAll returns true, and each argument reads afterwards as before: package layout keeps the document here. No condition.
-/
import Derived.Test.YtadeghfhjiohnaaRows
import Derived.Test.YtadeghfhjiohnaaLg
import Derived.WalkKit
import Derived.ProofKit
import Derived.OpenShut
import Derived.ShutString
import Derived.ChangeOld
import Derived.Below
namespace Go.Proofs.Ytadeghfhjiohnaa.layoutFormatsAll
open Go.ChangeShapes Go.WideShapes Go.ChangeAt Go.RowKit Ga Gb Na Nb Nc Nd_ Nf Nq Nr Ns Nt La Lb Le Lf Ta Fa Fb Fc Fd_ Lg
set_option linter.unusedSimpArgs false
set_option linter.unusedVariables false

theorem own : ownKnob Try.prog.godebug = none := by kernel_rfl
theorem laidOut : laidOutB Try.prog = true := of_decide_eq_true (by kernel_rfl)

set_option maxRecDepth 100000 in
set_option maxHeartbeats 900000 in
theorem walk (a0 : Int) (a1 : Int) (w : World) (w0 : (Lit.int .i64 a0).wf = true) (w1 : (Lit.int .i64 a1).wf = true) :
    Calls Try.prog 6 #[.int .i64 a0, .int .i64 a1] w fun e w' => e = .returned (.bool true) ∧ Below w.heap.size w w' := by
  have hw0 := bounds_i64 w0
  have hw1 := bounds_i64 w1
  have C0 := pick_any a0 5 w (by decide) (by decide) (by omega) (by omega)
  have p0 := pk_lt a0 5 (by omega)
  generalize pk a0 5 = k0 at *
  obtain ⟨n, hnk⟩ : ∃ n : Nat, n = k0 + 1 := ⟨_, rfl⟩
  have hn : 1 ≤ n ∧ n ≤ 5 := by omega
  have hni : (k0 : Int) + 1 = n := by omega
  have C1' := pick_any a1 ((n : Int) + 3) w (by omega) (by omega) (by omega) (by omega)
  have p1 := pk_lt a1 ((n : Int) + 3) (by omega)
  generalize pk a1 ((n : Int) + 3) = d at *
  have CA := Lk.mk (fun W => awake_l W)
  have HNi := Lk.mk hni
  clear hni hnk
  go_enter Try.func6, Try.ntmps6
  go_upto_region 1 with fail
  go_cut [0] (fun s0 wx => wx = w ∧ s0 = .int .i64 n)
  case first =>
    go_wp2_with (first | (go_at_call 7; (with_reducible refine C0.mono ?_); rintro e w' ⟨rfl, rfl⟩))
    go_meet
    exact ⟨rfl, by have := HNi.out; congr 1⟩
  case rest =>
  obtain ⟨hwc, rfl⟩ := hcut
  obtain rfl : w = wc := hwc.symm
  have hd : d < n + 3 := by omega
  clear HNi C0 hw0 w0 p0 p1
  have CN := newf_ok n 1 98 w hn (by decide) (by decide)
  go_upto_region 6 with (first
    | (go_at_call 7; (with_reducible refine C1'.mono ?_); rintro e w' ⟨rfl, rfl⟩)
    | (go_at_call 39; refine CN.mono ?_; rintro e w1 ⟨fb, cv, ccap, nds, NV, lv, bss, bsx, rfl, HC, HB⟩)
    | (go_at_call 10; refine (CA.out _).mono ?_; rintro e w2 ⟨rfl, H2⟩))
  obtain ⟨nv, nc, hF⟩ := Fs.start HC.out HB.out hn.1 H2.out
  have HF := Lk.mk hF
  clear HC HB H2 hF CN C1' hw1 hwc
  generalize (fun i => (nds.getD i (0, 0)).1) = bs at *
  generalize (fun i => (nds.getD i (0, 0)).2) = gs at *
  obtain ⟨Z, hZ⟩ : ∃ Z, List.replicate (8 * 98) 0 = Z := ⟨_, rfl⟩
  rw [hZ] at HF
  have HZ := Lk.mk hZ
  obtain ⟨N, hN⟩ : ∃ N, 8 * 98 = N := ⟨_, rfl⟩
  rw [hN] at HF
  have HN := Lk.mk hN
  clear hZ hN
  have H0 : Lk (Fs w w2 fb 98 N n nc nv (some ⟨cv, 0, none⟩) 1 ccap (.slice none 0 0) bs gs (fun i => (Z, !(decide (i = d ∧ i < 0))))) := ⟨HF.out.eq fun j hj => by simp⟩
  clear HF
  go_wp2_with fail
  go_loopw [7] (fun s7 wr => ∃ k : Nat, k ≤ n ∧ s7 = .int .i64 k ∧ Lk (Fs w wr fb 98 N n nc nv (some ⟨cv, 0, none⟩) 1 ccap (.slice none 0 0) bs gs (fun i => (Z, !(decide (i = d ∧ i < k)))))) (fun i _ => n - (intOf i).toNat)
  case atStart => exact ⟨0, by omega, rfl, H0⟩
  case round =>
    clear H0
    obtain ⟨k, hk, rfl, HF⟩ := hrel
    by_cases hlk : k < n
    · have hki : (k : Int) < n := by omega
      have CNd := Fs.node HF hn.2 hlk
      by_cases hkd : k = d
      · obtain rfl : d = k := hkd.symm
        clear hkd
        have CFa := fail_any (bs d) (gs d) N N Z true wr ⟨by
          have hp := HF.out.nodes d hlk
          simpa using hp⟩
        go_wp2_with (first
          | (go_at_call 40; refine CNd.mono ?_; rintro e w' ⟨rfl, rfl⟩)
          | (go_at_call 33; refine CFa.mono ?_; rintro e w3 ⟨rfl, HP3, HO3⟩))
        go_roundw
        case rel => exact ⟨d + 1, by omega, by go_num, ⟨HF.out.put hlk HP3.out (HO3.out.mono fun k hk => .inl hk) (by simp) (fun j hj hne => by simp [hne])⟩⟩
        case measure => simp [intOf]; omega
      · have hke : ¬ (k : Int) = d := by omega
        have HF2 : Lk (Fs w wr fb 98 N n nc nv (some ⟨cv, 0, none⟩) 1 ccap (.slice none 0 0) bs gs (fun i => (Z, !(decide (i = d ∧ i < k + 1))))) := ⟨HF.out.eq fun j hj => by
          have e : (j = d ∧ j < k + 1) ↔ (j = d ∧ j < k) := by omega
          simp [e]⟩
        clear hkd
        go_wp2_with (first | (go_at_call 40; refine CNd.mono ?_; rintro e w' ⟨rfl, rfl⟩))
        go_roundw
        case rel => exact ⟨k + 1, by omega, by go_num, HF2⟩
        case measure => simp [intOf]; omega
    · obtain rfl : n = k := by omega
      clear hlk
      by_cases hdn : d < n
      · skip
        have HF1 : Lk (Fs w wr fb 98 N n nc nv (some ⟨cv, 0, none⟩) 1 ccap (.slice none 0 0) bs gs (fun i => (Z, decide (i ≠ d)))) := ⟨HF.out.eq fun j hj => by simp [hj]⟩
        have CF := formatAll_any w wr fb 98 N n nc nv (some ⟨cv, 0, none⟩) 1 ccap (.slice none 0 0) bs gs _ d HF1 HN.out.symm (by decide) hn (fun i hi => rfl)
        rw [if_pos hdn, if_pos hdn] at CF
        clear HF HF1
        have CR := fun W => Nf.refNew_any 98 W (by decide) (by decide)
        have CT := fun W => refFormatted_any 98 n W (by decide) hn
        rw [HZ.out, HN.out] at CR
        rw [HN.out] at CT
        have hTl : (fmtW 98 (civ n)).length = N := (fmtW_len 98 _).trans HN.out
        generalize fmtW 98 (civ n) = T at *
        have hdi : (d : Int) < n := by omega
        go_upto_region 18 with (first
          | (go_at_call 41; refine CF.mono ?_; rintro e w3 ⟨rfl, HF3⟩)
          | (go_at_call 42; refine (CR _).mono ?_; rintro e w4 ⟨g1, rfl, hg1, HR1, H4⟩))
        have HF4 : Lk (Fs w w3 fb 98 N n nc nv (some ⟨cv, 0, none⟩) 1 ccap (.slice none 0 0) bs gs (fun i => if i < d then (T, true) else (Z, decide (i ≠ d)))) := ⟨HF3.out.eq fun j hj => by
          show (if j < d then _ else _) = (if j < d then _ else _); rfl⟩
        have HRN1 : Lk (Nf.RN (w4.alloc (.cells #[.slice (some ⟨g1, 0, none⟩) N N, .bool true] 47)) w4.heap.size g1 N N Z true) :=
          ⟨⟨heap_alloc_new _ _, HR1.out.keep (Below.heap_alloc _ _ _ HR1.out.size), by have := HR1.out.size; omega⟩⟩
        have HF5 := Lk.mk ((HF4.out.on H4.out).on ((Below.refl _ w4).alloc (Nat.le_refl _) (.cells #[.slice (some ⟨g1, 0, none⟩) N N, .bool true] 47)))
        clear HF3 HF4 HR1 H4 hg1 CF CR
        generalize w4.alloc _ = w4a at *
        generalize w4.heap.size = o1 at *
        go_upto_region 19 with (first
          | (go_at_call 37; refine (CT _).mono ?_; rintro e w5 ⟨g2, rfl, hg2, HR2, H5⟩))
        have HRN2 : Lk (Nf.RN (w5.alloc (.cells #[.slice (some ⟨g2, 0, none⟩) N N, .bool true] 47)) w5.heap.size g2 N N T true) :=
          ⟨⟨heap_alloc_new _ _, HR2.out.keep (Below.heap_alloc _ _ _ HR2.out.size), by have := HR2.out.size; omega⟩⟩
        have hBx := (H5.out.mono (Nat.le_refl _)).alloc (H5.out.size) (.cells #[.slice (some ⟨g2, 0, none⟩) N N, .bool true] 47)
        have HF6 := Lk.mk (HF5.out.on hBx)
        have HRN3 := Lk.mk (HRN1.out.keep (hBx.block o1 HRN1.out.size) (hBx.block g1 HRN1.out.row.size))
        clear HF5 HRN1 HR2 H5 hg2 CT hBx
        generalize w5.alloc _ = w5a at *
        generalize w5.heap.size = o2 at *
        go_wp2_with fail
        go_loopw [12] (fun s12 wr => ∃ k : Nat, k ≤ n ∧ s12 = .int .i64 k ∧ Lk (Fs w wr fb 98 N n nc nv (some ⟨cv, 0, none⟩) 1 ccap (.slice none 0 0) bs gs (fun i => if i < d then (T, true) else (Z, decide (i ≠ d)))) ∧ Lk (Nf.RN wr o1 g1 N N Z true) ∧ Lk (Nf.RN wr o2 g2 N N T true)) (fun i _ => n - (intOf i).toNat)
        case atStart => exact ⟨0, by omega, rfl, HF6, HRN3, HRN2⟩
        case round =>
          clear HF6 HRN3 HRN2
          obtain ⟨k, hk, rfl, HF, HQ1, HQ2⟩ := hrel
          by_cases hlk : k < n
          · have hki : (k : Int) < n := by omega
            have q20 := HQ2.out.c0
            have q21 := HQ2.out.c1
            have q10 := HQ1.out.c0
            have q11 := HQ1.out.c1
            go_upto_region 23 with fail
            by_cases hkd : k < d
            · have hkdi : ¬ (d : Int) ≤ k := by omega
              have HB6 := Lk.mk ((Below.refl _ wr).alloc (Nat.le_refl _) (.cells #[.slice (some ⟨g2, 0, none⟩) N N, .bool true] 47))
              have HRN : Lk (Nf.RN (wr.alloc (.cells #[.slice (some ⟨g2, 0, none⟩) N N, .bool true] 47)) wr.heap.size g2 N N T true) :=
                ⟨⟨heap_alloc_new _ _, HQ2.out.row.keep (Below.heap_alloc _ _ _ HQ2.out.row.size), by have := HQ2.out.row.size; omega⟩⟩
              clear q20 q21 q10 q11
              generalize wr.alloc _ = w6 at *
              have HP := Lk.mk (by have h := (HF.out.on HB6.out).nodes k hlk; rw [if_pos hkd] at h; exact h)
              have CNd := Fs.node ⟨HF.out.on HB6.out⟩ hn.2 hlk
              have CI := image_any (bs k) (gs k) N N T true w6 98 HP HN.out.symm (by decide) (by decide)
              go_wp2_with (first
                | (go_at_call 40; refine CNd.mono ?_; rintro e w' ⟨rfl, rfl⟩)
                | (go_at_call 34; refine CI.mono ?_; rintro e w7 ⟨v7, rfl, HI⟩))
              obtain ⟨A, c, rfl, hc, hLi⟩ := HI.out.form
              have CS := sameImage_any A _ _ c wr.heap.size g2 N N T true w7 98 rfl ⟨hLi⟩ ⟨rfl⟩ ⟨HRN.out.keep (HI.out.below.block _ HRN.out.size) (HI.out.below.block _ HRN.out.row.size)⟩ HN.out.symm (by decide) (by decide)
              go_wp2_with (first | (go_at_call 38; refine CS.mono ?_; rintro e w8 ⟨rfl, HB⟩))
              have hB7 := HI.out.below.trans (HB.out.mono HI.out.below.size)
              have hB8 := HB6.out.trans (hB7.mono HB6.out.size)
              go_roundw
              case rel => exact ⟨k + 1, by omega, by go_num, ⟨HF.out.on hB8⟩, ⟨HQ1.out.keep (hB8.block _ HQ1.out.size) (hB8.block _ HQ1.out.row.size)⟩, ⟨HQ2.out.keep (hB8.block _ HQ2.out.size) (hB8.block _ HQ2.out.row.size)⟩⟩
              case measure => simp [intOf]; omega
            · have hkdi : (d : Int) ≤ k := by omega
              have hkk : ((k : Int) != d) = decide (k ≠ d) := by
                rw [Bool.eq_iff_iff]; simp; omega
              have HB6 := Lk.mk ((Below.refl _ wr).alloc (Nat.le_refl _) (.cells #[.slice (some ⟨g1, 0, none⟩) N N, .bool (decide (k ≠ d))] 47))
              have HRN : Lk (Nf.RN (wr.alloc (.cells #[.slice (some ⟨g1, 0, none⟩) N N, .bool (decide (k ≠ d))] 47)) wr.heap.size g1 N N Z (decide (k ≠ d))) :=
                ⟨⟨heap_alloc_new _ _, HQ1.out.row.keep (Below.heap_alloc _ _ _ HQ1.out.row.size), by have := HQ1.out.row.size; omega⟩⟩
              have hso := HQ1.out.size
              have HKK := Lk.mk hkk
              clear hkk
              go_upto_region 26 with fail
              rw [HKK.out]
              clear q20 q21 q10 q11 hso
              generalize wr.alloc _ = w6 at *
              have HP := Lk.mk (by have h := (HF.out.on HB6.out).nodes k hlk; rw [if_neg hkd] at h; exact h)
              generalize decide (k ≠ d) = ub at *
              have CNd := Fs.node ⟨HF.out.on HB6.out⟩ hn.2 hlk
              have CI := image_any (bs k) (gs k) N N Z ub w6 98 HP HN.out.symm (by decide) (by decide)
              go_wp2_with (first
                | (go_at_call 40; refine CNd.mono ?_; rintro e w' ⟨rfl, rfl⟩)
                | (go_at_call 34; refine CI.mono ?_; rintro e w7 ⟨v7, rfl, HI⟩))
              obtain ⟨A, c, rfl, hc, hLi⟩ := HI.out.form
              have CS := sameImage_any A _ _ c wr.heap.size g1 N N Z ub w7 98 rfl ⟨hLi⟩ ⟨rfl⟩ ⟨HRN.out.keep (HI.out.below.block _ HRN.out.size) (HI.out.below.block _ HRN.out.row.size)⟩ HN.out.symm (by decide) (by decide)
              go_wp2_with (first | (go_at_call 38; refine CS.mono ?_; rintro e w8 ⟨rfl, HB⟩))
              have hB7 := HI.out.below.trans (HB.out.mono HI.out.below.size)
              have hB8 := HB6.out.trans (hB7.mono HB6.out.size)
              go_roundw
              case rel => exact ⟨k + 1, by omega, by go_num, ⟨HF.out.on hB8⟩, ⟨HQ1.out.keep (hB8.block _ HQ1.out.size) (hB8.block _ HQ1.out.row.size)⟩, ⟨HQ2.out.keep (hB8.block _ HQ2.out.size) (hB8.block _ HQ2.out.row.size)⟩⟩
              case measure => simp [intOf]; omega
          · obtain rfl : k = n := by omega
            go_wp2
            go_ret
            exact ⟨rfl, HF.out.below⟩
      · skip
        have HF1 : Lk (Fs w wr fb 98 N n nc nv (some ⟨cv, 0, none⟩) 1 ccap (.slice none 0 0) bs gs (fun i => (Z, decide (i ≠ d)))) := ⟨HF.out.eq fun j hj => by simp [hj]⟩
        have CF := formatAll_any w wr fb 98 N n nc nv (some ⟨cv, 0, none⟩) 1 ccap (.slice none 0 0) bs gs _ d HF1 HN.out.symm (by decide) hn (fun i hi => rfl)
        rw [if_neg hdn, if_neg hdn] at CF
        clear HF HF1
        have CR := fun W => Nf.refNew_any 98 W (by decide) (by decide)
        have CT := fun W => refFormatted_any 98 n W (by decide) hn
        rw [HZ.out, HN.out] at CR
        rw [HN.out] at CT
        have hTl : (fmtW 98 (civ n)).length = N := (fmtW_len 98 _).trans HN.out
        generalize fmtW 98 (civ n) = T at *
        have hdi : ¬ (d : Int) < n := by omega
        go_upto_region 18 with (first
          | (go_at_call 41; refine CF.mono ?_; rintro e w3 ⟨rfl, HF3⟩)
          | (go_at_call 42; refine (CR _).mono ?_; rintro e w4 ⟨g1, rfl, hg1, HR1, H4⟩))
        have HF4 : Lk (Fs w w3 fb 98 N n nc nv (some ⟨cv, 0, none⟩) 1 ccap (.slice none 0 0) bs gs (fun i => if i < d then (T, true) else (Z, decide (i ≠ d)))) := ⟨HF3.out.eq fun j hj => by
          show (if j < d then _ else _) = (if j < n then _ else _); rw [if_pos (by omega), if_pos hj]⟩
        have HRN1 : Lk (Nf.RN (w4.alloc (.cells #[.slice (some ⟨g1, 0, none⟩) N N, .bool true] 47)) w4.heap.size g1 N N Z true) :=
          ⟨⟨heap_alloc_new _ _, HR1.out.keep (Below.heap_alloc _ _ _ HR1.out.size), by have := HR1.out.size; omega⟩⟩
        have HF5 := Lk.mk ((HF4.out.on H4.out).on ((Below.refl _ w4).alloc (Nat.le_refl _) (.cells #[.slice (some ⟨g1, 0, none⟩) N N, .bool true] 47)))
        clear HF3 HF4 HR1 H4 hg1 CF CR
        generalize w4.alloc _ = w4a at *
        generalize w4.heap.size = o1 at *
        go_upto_region 19 with (first
          | (go_at_call 37; refine (CT _).mono ?_; rintro e w5 ⟨g2, rfl, hg2, HR2, H5⟩))
        have HRN2 : Lk (Nf.RN (w5.alloc (.cells #[.slice (some ⟨g2, 0, none⟩) N N, .bool true] 47)) w5.heap.size g2 N N T true) :=
          ⟨⟨heap_alloc_new _ _, HR2.out.keep (Below.heap_alloc _ _ _ HR2.out.size), by have := HR2.out.size; omega⟩⟩
        have hBx := (H5.out.mono (Nat.le_refl _)).alloc (H5.out.size) (.cells #[.slice (some ⟨g2, 0, none⟩) N N, .bool true] 47)
        have HF6 := Lk.mk (HF5.out.on hBx)
        have HRN3 := Lk.mk (HRN1.out.keep (hBx.block o1 HRN1.out.size) (hBx.block g1 HRN1.out.row.size))
        clear HF5 HRN1 HR2 H5 hg2 CT hBx
        generalize w5.alloc _ = w5a at *
        generalize w5.heap.size = o2 at *
        go_wp2_with fail
        go_loopw [12] (fun s12 wr => ∃ k : Nat, k ≤ n ∧ s12 = .int .i64 k ∧ Lk (Fs w wr fb 98 N n nc nv (some ⟨cv, 0, none⟩) 1 ccap (.slice none 0 0) bs gs (fun i => if i < d then (T, true) else (Z, decide (i ≠ d)))) ∧ Lk (Nf.RN wr o1 g1 N N Z true) ∧ Lk (Nf.RN wr o2 g2 N N T true)) (fun i _ => n - (intOf i).toNat)
        case atStart => exact ⟨0, by omega, rfl, HF6, HRN3, HRN2⟩
        case round =>
          clear HF6 HRN3 HRN2
          obtain ⟨k, hk, rfl, HF, HQ1, HQ2⟩ := hrel
          by_cases hlk : k < n
          · have hki : (k : Int) < n := by omega
            have q20 := HQ2.out.c0
            have q21 := HQ2.out.c1
            have q10 := HQ1.out.c0
            have q11 := HQ1.out.c1
            go_upto_region 23 with fail
            by_cases hkd : k < d
            · have hkdi : ¬ (d : Int) ≤ k := by omega
              have HB6 := Lk.mk ((Below.refl _ wr).alloc (Nat.le_refl _) (.cells #[.slice (some ⟨g2, 0, none⟩) N N, .bool true] 47))
              have HRN : Lk (Nf.RN (wr.alloc (.cells #[.slice (some ⟨g2, 0, none⟩) N N, .bool true] 47)) wr.heap.size g2 N N T true) :=
                ⟨⟨heap_alloc_new _ _, HQ2.out.row.keep (Below.heap_alloc _ _ _ HQ2.out.row.size), by have := HQ2.out.row.size; omega⟩⟩
              clear q20 q21 q10 q11
              generalize wr.alloc _ = w6 at *
              have HP := Lk.mk (by have h := (HF.out.on HB6.out).nodes k hlk; rw [if_pos hkd] at h; exact h)
              have CNd := Fs.node ⟨HF.out.on HB6.out⟩ hn.2 hlk
              have CI := image_any (bs k) (gs k) N N T true w6 98 HP HN.out.symm (by decide) (by decide)
              go_wp2_with (first
                | (go_at_call 40; refine CNd.mono ?_; rintro e w' ⟨rfl, rfl⟩)
                | (go_at_call 34; refine CI.mono ?_; rintro e w7 ⟨v7, rfl, HI⟩))
              obtain ⟨A, c, rfl, hc, hLi⟩ := HI.out.form
              have CS := sameImage_any A _ _ c wr.heap.size g2 N N T true w7 98 rfl ⟨hLi⟩ ⟨rfl⟩ ⟨HRN.out.keep (HI.out.below.block _ HRN.out.size) (HI.out.below.block _ HRN.out.row.size)⟩ HN.out.symm (by decide) (by decide)
              go_wp2_with (first | (go_at_call 38; refine CS.mono ?_; rintro e w8 ⟨rfl, HB⟩))
              have hB7 := HI.out.below.trans (HB.out.mono HI.out.below.size)
              have hB8 := HB6.out.trans (hB7.mono HB6.out.size)
              go_roundw
              case rel => exact ⟨k + 1, by omega, by go_num, ⟨HF.out.on hB8⟩, ⟨HQ1.out.keep (hB8.block _ HQ1.out.size) (hB8.block _ HQ1.out.row.size)⟩, ⟨HQ2.out.keep (hB8.block _ HQ2.out.size) (hB8.block _ HQ2.out.row.size)⟩⟩
              case measure => simp [intOf]; omega
            · exfalso; omega
          · obtain rfl : k = n := by omega
            go_wp2
            go_ret
            exact ⟨rfl, HF.out.below⟩

set_option maxRecDepth 100000 in
theorem lifted (os : Os) (started : os.Started) (H : Type) (enc : TypeId × Value → H) :
    ReturnsInHanded {} Try.checked os 6 .any (Rows.layoutFormatsAllSpec.pre6 enc Try.prog Try.f6 Rows.layoutFormatsAllRow.domain false) (Rows.layoutFormatsAllSpec.post enc Try.prog Try.f6 false true false false) := by
  refine returnsInHanded_of_change (C := Try.checked) own started (by kernel_rfl) Try.func6
    (ChangeSpec.witness6 (enc := enc) (C := Try.checked) false ⟨#[], #[.int .i64 0, .int .i64 0], []⟩ 8 (by kernel_rfl) (by kernel_rfl) (by kernel_rfl) (by kernel_rfl)) ?_
  intro W base args ds gs before hval0 hW hcnd _
  have hval : ∀ (j : Nat) t v, Try.f6.params[j]? = some t → args[j]? = some v → Value.okWide Try.prog W .any base t v := hval0
  have hW' := hW
  obtain ⟨p, q, hA0, hV, rfl, hfz, hnd⟩ := hW
  have hA : DataW.TrodAll enc Try.prog W 0 (fun _ => true) true Try.f6.params.toList args.toList ds p := hA0
  rw [Try.params6] at hA hval
  obtain ⟨v0, vs0, d0, ds0, p0, q0, hargs, rfl, rfl, h0, r0⟩ := trodAll_cons hA
  obtain ⟨v1, vs1, d1, ds1, p1, q1, rfl, rfl, rfl, h1, r1⟩ := trodAll_cons r0
  obtain ⟨rfl, rfl, rfl⟩ := trodAll_nil r1
  obtain rfl : args = #[v0, v1] := by cases args; simp_all
  obtain ⟨rfl, rfl⟩ := trodVars_none hV
  obtain ⟨a0, rfl, rfl, rfl, w0⟩ := open_int Try.underlying3 (hval 0 3 v0 rfl rfl) h0
  obtain ⟨a1, rfl, rfl, rfl, w1⟩ := open_int Try.underlying3 (hval 1 3 v1 rfl rfl) h1
  clear hA0 hval0
  refine (walk a0 a1 W w0 w1).mono fun e W' ⟨he, bel⟩ => ?_
  subst he
  exact ⟨_, rfl, _, _, _, [], _, [], hW', trodAll_mk1 (shut_bool Try.underlying4 _), (trodAll_cons_mk (shut_int Try.underlying3 w0) (trodAll_cons_mk (shut_int Try.underlying3 w1) trodAll_mk0)), rfl, bel.frame _, fun h => by cases h⟩

theorem over : Rows.layoutFormatsAllRow.holds Try.pinned (OpenSpec.ofChange Rows.layoutFormatsAllSpec) :=
  OpenClaim.holds_of_wide 6 Try.f6 rfl rfl rfl rfl rfl rfl rfl ⟨rfl, rfl, rfl, rfl, rfl⟩ rfl rfl rfl rfl rfl (by kernel_rfl) Try.func6 (by kernel_rfl)
    (of_decide_eq_true (by kernel_rfl)) (by unfold Func.isWrapper; first | (rw [if_pos (by decide +kernel)]; kernel_rfl) | (rw [if_neg (by decide +kernel)]; exact ⟨rfl, rfl⟩))
    (fun os started H enc _ => lifted os started H enc)

/-- ████ THE STATEMENT ████ -/
theorem proved : Rows.LayoutFormatsAllSaid := over
end Go.Proofs.Ytadeghfhjiohnaa.layoutFormatsAll
