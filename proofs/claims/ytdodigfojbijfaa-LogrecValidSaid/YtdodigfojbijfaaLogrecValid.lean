/-
  For every input LogrecValid returns true, and each argument reads afterwards as before: package logrec keeps the document here. No condition.
-/
import Derived.Test.YtdodigfojbijfaaRows
import Derived.Test.YtdodigfojbijfaaSd
import Derived.WalkKit
import Derived.ProofKit
import Derived.OpenShut
import Derived.ShutString
import Derived.ChangeOld
import Derived.Below
namespace Go.Proofs.Ytdodigfojbijfaa.logrecValid
open Go.ChangeShapes Go.WideShapes Go.ChangeAt Go.RowKit Ga Gb Ra Rb Rc Rd Re Rf Rg Rh Ri Rj Rk Rl Rm Rn Ro Rp Rr Rs Rt Ru Rv Un Rw Rx Ry Rz Sa Sb Sc Sd
set_option linter.unusedSimpArgs false
set_option linter.unusedVariables false

theorem own : ownKnob Try.prog.godebug = none := by kernel_rfl
theorem laidOut : laidOutB Try.prog = true := of_decide_eq_true (by kernel_rfl)

set_option maxRecDepth 100000 in
set_option maxHeartbeats 2000000 in
theorem walk (a0 : Int) (a1 : Option Addr) (len1 cap1 : Nat) (l1 : List Pg) (a2 : Option Addr) (len2 cap2 : Nat) (l2 : List Pg) (a3 : Int) (a4 : Option Addr) (len4 cap4 : Nat) (z4 : List Int) (a5 : Int) (w : World) (w0 : (Lit.int .i64 a0).wf = true) (w1 : IsPgs w a1 len1 cap1 l1) (w2 : IsPgs w a2 len2 cap2 l2) (w3 : (Lit.int .i64 a3).wf = true) (w4 : IsRow .i64 w a4 len4 cap4 z4) (w5 : (Lit.int .i64 a5).wf = true) :
    Calls Try.prog 3 #[.int .i64 a0, .slice a1 len1 cap1, .slice a2 len2 cap2, .int .i64 a3, .slice a4 len4 cap4, .int .i64 a5] w fun e w' => e = .returned (.bool true) ∧ Below w.heap.size w w' := by
  have hw0 := bounds_i64 w0
  have hw3 := bounds_i64 w3
  have hw5 := bounds_i64 w5
  obtain ⟨i0, hi, hi0, hi1, hi2⟩ := info_parts pinfo
  have HP1 := Lk.mk w1
  have HP2 := Lk.mk w2
  go_enter Try.func3, Try.ntmps3
  by_cases hb1 : 20 < len1
  · have hb1i : (20 : Int) < len1 := by omega
    go_wp2
    go_ret
    exact ⟨rfl, Below.refl _ _⟩
  have hb1i : ¬ (20 : Int) < len1 := by omega
  by_cases hb2 : 20 < len2
  · have hb2i : (20 : Int) < len2 := by omega
    go_wp2
    go_ret
    exact ⟨rfl, Below.refl _ _⟩
  have hb2i : ¬ (20 : Int) < len2 := by omega
  by_cases hb3 : 20 < len4
  · have hb3i : (20 : Int) < len4 := by omega
    go_wp2
    go_ret
    exact ⟨rfl, Below.refl _ _⟩
  have hb3i : ¬ (20 : Int) < len4 := by omega
  have CR := Lk.mk (fun (W : World) (hB : Below w.heap.size w W) => record_any a4 z4 len4 cap4 a0 256 W (isrow_on w4 hB) (by omega) (by decide) hw0.1 hw0.2)
  obtain ⟨hnice, hl1, hl2⟩ := recL_nice a0 256 (z4.take len4)
  have HWf := Lk.mk (hnice.wf (by decide))
  generalize recL a0 256 (z4.take len4) = l at *
  generalize recS a0 = s at *
  obtain ⟨m, hm⟩ : ∃ m, l.length = m := ⟨_, rfl⟩
  rw [hm] at CR hl1 hl2
  have HM := Lk.mk hm
  unfold rcv at CR
  clear hnice hm w0 w1 w2 w3 w4 w5 hw0 hb1 hb2 hb3
  go_upto_region 4 with fail
  have HX13 := Lk.mk (box_on (heap_alloc_new w (.cells #[.int .i64 a0, .slice a1 len1 cap1] 25)) (one_alloc _ (.cells #[.int .i64 a0, .slice a2 len2 cap2] 25)))
  have HX14 := Lk.mk (heap_alloc_new (w.alloc (.cells #[.int .i64 a0, .slice a1 len1 cap1] 25)) (.cells #[.int .i64 a0, .slice a2 len2 cap2] 25))
  rw [show (w.alloc (.cells #[.int .i64 a0, .slice a1 len1 cap1] 25)).heap.size = w.heap.size + 1 by simp] at HX14
  have HB0 := Lk.mk (two_alloc w (.cells #[.int .i64 a0, .slice a1 len1 cap1] 25) (.cells #[.int .i64 a0, .slice a2 len2 cap2] 25))
  generalize (w.alloc _).alloc _ = W0 at *
  go_upto_region 5 with (first
    | (go_at_call 9; refine (CR.out _ HB0.out).mono ?_; rintro e w1 ⟨A1, c1, rfl, HP⟩))
  have HX15 := Lk.mk (heap_alloc_new w1 (.cells #[.int .i64 s, .slice A1 m c1] 25))
  have HBB := Lk.mk (btr HP.out.below (one_alloc w1 (.cells #[.int .i64 s, .slice A1 m c1] 25)))
  have HPc := Lk.mk (Pt.lower (HP.out.on (one_alloc w1 (.cells #[.int .i64 s, .slice A1 m c1] 25))) HB0.out (Nat.le_refl _))
  have HX13b := Lk.mk (box_on HX13.out HBB.out)
  have HX14b := Lk.mk (box_on HX14.out HBB.out)
  obtain ⟨g15, hg15⟩ : ∃ g, w1.heap.size = g := ⟨_, rfl⟩
  rw [hg15] at HX15 ⊢
  clear hg15 HP CR HX13 HX14 HBB
  generalize w1.alloc _ = W1 at *
  obtain ⟨p0, p1, _, _⟩ := two_cells HX15.out
  have HF := Lk.mk (fun (W : World) (hB : Below W1.heap.size W1 W) => from_pgs (pt_pgs (HPc.out.on hB) HM.out) HM.out)
  have HQ0 := Lk.mk (show W1.drew.cell? ⟨g15, 0, none⟩ = some (.int .i64 s) ∧ W1.drew.cell? ⟨g15, 1, none⟩ = some (.slice A1 m c1) ∧ Lk (Below W1.heap.size W1 W1.drew) from ⟨p0, p1, ⟨(Below.refl _ _).drew⟩⟩)
  have hm1 : 0 + m ≤ maxLen := by unfold maxLen; omega
  have hm2 : (0 + m) * 72 ≤ 140737488355328 := by omega
  have HP1o := Lk.mk (Rs.pages_one l)
  have HD1 := Lk.mk ((Below.refl W1.heap.size W1).drew)
  go_cut [16] (fun s16 wx => ∃ g16 gA cA : Nat, s16 = .pointer (some ⟨g16, 0, none⟩) ∧ m ≤ cA ∧ Lk (wx.heap[g16]? = some (.cells #[.int .i64 s, .slice (some ⟨gA, 0, none⟩) m cA] 25 (0, 0))) ∧ Lk (Pt W1 W1.heap.size wx (.slice (some ⟨gA, 0, none⟩) m cA) l) ∧ Lk (W1.heap.size ≤ g16) ∧ Lk (W1.heap.size ≤ gA) ∧ Lk (g16 ≠ gA))
  case first =>
    refine wp_region_held_drew (S := fun W' => W'.cell? ⟨g15, 0, none⟩ = some (.int .i64 s) ∧ W'.cell? ⟨g15, 1, none⟩ = some (.slice A1 m c1) ∧ Lk (Below W1.heap.size W1 W')) (by kernel_rfl) HQ0.out (fun hHeld => ?_)
    refine wpAnyH_take (i := 0) (v := ?_) (by simp only [List.getElem?_toArray, List.getElem?_cons_succ, List.getElem?_cons_zero] <;> rfl) (by kernel_rfl) (by kernel_rfl) (by kernel_rfl) (by exact fun _ _ _ h => h) (Or.inl ⟨by rfl, ?_⟩) (by assumption) ?_
    rotate_left
    · (intro w' hSw; (try dsimp only at hSw); go_simp <;> with_reducible rfl)
    (try simp only [Act.put, List.setIfInBounds_toArray, List.set_cons_zero, List.set_cons_succ])
    refine wpAnyH_take (i := 1) (v := ?_) (by simp only [List.getElem?_toArray, List.getElem?_cons_succ, List.getElem?_cons_zero] <;> rfl) (by kernel_rfl) (by kernel_rfl) (by kernel_rfl) (by exact fun _ _ _ h => h) (Or.inl ⟨by rfl, ?_⟩) (by assumption) ?_
    rotate_left
    · (intro w' hSw; (try dsimp only at hSw); go_simp <;> with_reducible rfl)
    (try simp only [Act.put, List.setIfInBounds_toArray, List.set_cons_zero, List.set_cons_succ])
    refine wpAnyH_take (i := 2) (v := ?_) (by simp only [List.getElem?_toArray, List.getElem?_cons_succ, List.getElem?_cons_zero] <;> rfl) (by kernel_rfl) (by kernel_rfl) (by kernel_rfl) (by exact fun _ _ _ h => h) (Or.inl ⟨by rfl, ?_⟩) (by assumption) ?_
    rotate_left
    · (intro w' hSw; (try dsimp only at hSw); go_simp <;> with_reducible rfl)
    (try simp only [Act.put, List.setIfInBounds_toArray, List.set_cons_zero, List.set_cons_succ])
    refine wpAnyH_take (i := 3) (v := ?_) (by simp only [List.getElem?_toArray, List.getElem?_cons_succ, List.getElem?_cons_zero] <;> rfl) (by kernel_rfl) (by kernel_rfl) (by kernel_rfl) (by exact fun _ _ _ h => h) (Or.inl ⟨by rfl, ?_⟩) (by assumption) ?_
    rotate_left
    · (intro w' hSw; (try dsimp only at hSw); go_simp <;> with_reducible rfl)
    (try simp only [Act.put, List.setIfInBounds_toArray, List.set_cons_zero, List.set_cons_succ])
    refine wpAnyH_ready (rs := [4, 6]) (by kernel_rfl) (by simp) ?_
    refine AllReadyH.cons rfl (fun K hK => ?_) (AllReadyH.cons rfl (fun K hK => ?_) AllReadyH.nil)
    · refine step_onto rfl (.const (.slice none 0 0)) (.tmp 44) 22 rfl W1.heap.size 31 i0 pz.val 9 72 Try.underlying22 hi hi0 hi1 hi2 rfl (by decide) (.slice none 0 0) 0 [] rfl (World.ownsRow_nil _ _ _ _) A1 m c1 (l.flatMap Pg.cells) (by simp [Act.eval, Act.put]) (HF.out _ (rd_below (by assumption))) HP1o.out hm1 hm2 (rd_below (by assumption)).size ?_
      intro v6 w6 hown6 hgrow6
      have HB6 := Lk.mk (below_none hgrow6)
      have HO6 := Lk.mk (Pt.mk (w0 := W1.drew) (B := W1.heap.size) (v := v6) (l := l) (by rw [HM.out]; simpa using hown6) (below_none hgrow6))
      obtain ⟨gA, cA, rfl, hcA, hcA', hgA, hgA'⟩ := pt_row HO6.out HM.out hl1
      refine hK.out _ _ ?_ (fun hHeld => ?_)
      · exact rd_on (by assumption) HB6
      clear hK K
      (try simp only [Act.put, List.setIfInBounds_toArray, List.set_cons_zero, List.set_cons_succ])
      refine wpAnyH_take (i := 5) (v := ?_) (by simp only [List.getElem?_toArray, List.getElem?_cons_succ, List.getElem?_cons_zero] <;> rfl) (by kernel_rfl) (by kernel_rfl) (by kernel_rfl) (by exact fun _ _ _ h => h) (Or.inl ⟨by rfl, ?_⟩) (by assumption) ?_
      rotate_left
      · (intro w' hSw; (try dsimp only at hSw); go_simp <;> with_reducible rfl)
      (try simp only [Act.put, List.setIfInBounds_toArray, List.set_cons_zero, List.set_cons_succ])
      refine wpAnyH_ready (rs := [6]) (by kernel_rfl) (by simp) ?_
      refine AllReadyH.cons rfl (fun K hK => ?_) AllReadyH.nil
      go_simp
      refine hK.out _ _ ?_ (fun hHeld => ?_)
      · exact rd_on (by assumption) ⟨one_alloc _ _⟩
      clear hK K
      (try simp only [Act.put, List.setIfInBounds_toArray, List.set_cons_zero, List.set_cons_succ])
      have HZ := Lk.mk (heap_alloc_new w6 (.cells #[.int .i64 0, .slice none 0 0] 25))
      obtain ⟨z0, z1, z2, z3⟩ := two_cells HZ.out
      have hsz : W1.drew.heap.size ≤ w6.heap.size := HB6.out.size
      refine wpAnyH_ready (rs := [7]) (by kernel_rfl) (by simp) ?_
      refine AllReadyH.cons rfl (fun K hK => ?_) AllReadyH.nil
      go_simp
      refine hK.out _ _ ?_ (fun hHeld => ?_)
      · exact rd_on HQ0.out ⟨btr HB6.out (one_alloc _ _)⟩
      clear hK K
      (try simp only [Act.put, List.setIfInBounds_toArray, List.set_cons_zero, List.set_cons_succ])
      refine wpAnyH_done (by kernel_rfl) ?_ _
      go_wp2
      go_meet
      exact ⟨w6.heap.size, gA, cA, rfl, hcA, ⟨heap_alloc_new _ _⟩, ⟨Pt.lower (HO6.out.on (one_alloc _ (.cells #[.int .i64 s, .slice (some ⟨gA, 0, none⟩) m cA] 25))) HD1.out (Nat.le_refl _)⟩, ⟨hsz⟩, ⟨hgA⟩, ⟨by omega⟩⟩
    · go_simp
      refine hK.out _ _ ?_ (fun hHeld => ?_)
      · exact rd_on (by assumption) ⟨one_alloc _ _⟩
      clear hK K
      (try simp only [Act.put, List.setIfInBounds_toArray, List.set_cons_zero, List.set_cons_succ])
      refine wpAnyH_ready (rs := [4]) (by kernel_rfl) (by simp) ?_
      refine AllReadyH.cons rfl (fun K hK => ?_) AllReadyH.nil
      refine step_onto rfl (.const (.slice none 0 0)) (.tmp 44) 22 rfl (W1.heap.size + 1) 31 i0 pz.val 9 72 Try.underlying22 hi hi0 hi1 hi2 rfl (by decide) (.slice none 0 0) 0 [] rfl (World.ownsRow_nil _ _ _ _) A1 m c1 (l.flatMap Pg.cells) (by simp [Act.eval, Act.put]) (HF.out _ (rd_below (by assumption))) HP1o.out hm1 hm2 (by simp) ?_
      intro v6 w6 hown6 hgrow6
      have HB6 := Lk.mk (below_none hgrow6)
      have HO6 := Lk.mk (Pt.mk (w0 := (W1.drew.alloc (.cells #[.int .i64 0, .slice none 0 0] 25))) (B := (W1.heap.size + 1)) (v := v6) (l := l) (by rw [HM.out]; simpa using hown6) (below_none hgrow6))
      obtain ⟨gA, cA, rfl, hcA, hcA', hgA, hgA'⟩ := pt_row HO6.out HM.out hl1
      refine hK.out _ _ ?_ (fun hHeld => ?_)
      · exact rd_on (by assumption) HB6
      clear hK K
      (try simp only [Act.put, List.setIfInBounds_toArray, List.set_cons_zero, List.set_cons_succ])
      refine wpAnyH_take (i := 5) (v := ?_) (by simp only [List.getElem?_toArray, List.getElem?_cons_succ, List.getElem?_cons_zero] <;> rfl) (by kernel_rfl) (by kernel_rfl) (by kernel_rfl) (by exact fun _ _ _ h => h) (Or.inl ⟨by rfl, ?_⟩) (by assumption) ?_
      rotate_left
      · (intro w' hSw; (try dsimp only at hSw); go_simp <;> with_reducible rfl)
      (try simp only [Act.put, List.setIfInBounds_toArray, List.set_cons_zero, List.set_cons_succ])
      have HZ := Lk.mk (show w6.heap[W1.heap.size]? = some (.cells #[.int .i64 0, .slice none 0 0] 25 (0, 0)) from box_on (heap_alloc_new W1.drew (.cells #[.int .i64 0, .slice none 0 0] 25)) HB6.out)
      obtain ⟨z0, z1, z2, z3⟩ := two_cells HZ.out
      refine wpAnyH_ready (rs := [7]) (by kernel_rfl) (by simp) ?_
      refine AllReadyH.cons rfl (fun K hK => ?_) AllReadyH.nil
      go_simp
      refine hK.out _ _ ?_ (fun hHeld => ?_)
      · exact rd_on HQ0.out ⟨two_below _ _ (btr (one_alloc _ _) HB6.out) (Nat.le_refl _)⟩
      clear hK K
      (try simp only [Act.put, List.setIfInBounds_toArray, List.set_cons_zero, List.set_cons_succ])
      refine wpAnyH_done (by kernel_rfl) ?_ _
      go_wp2
      go_meet
      exact ⟨W1.heap.size, gA, cA, rfl, hcA, ⟨two_set _ _ _ _ HZ.out⟩, ⟨Pt.lower (pt_two_ne _ _ (Pt.lower HO6.out (one_alloc W1.drew (.cells #[.int .i64 0, .slice none 0 0] 25)) (Nat.le_succ _)) (fun k hk => own_ne hk (by omega)) (Nat.le_refl _)) HD1.out (Nat.le_refl _)⟩, ⟨Nat.le_refl _⟩, ⟨by omega⟩, ⟨by omega⟩⟩
  obtain ⟨g16, gA, cA, rfl, hcA, HX16, HPd, HG16, HGA, HGn⟩ := hcut
  obtain ⟨W2, rfl⟩ : ∃ W : World, W = wc := ⟨_, rfl⟩
  clear p0 p1 HF HQ0 hm1 hm2 HP1o HD1 hi hi0 hi1 hi2
  have CPk := Lk.mk (fun W => pick_any a5 m W (by omega) (by omega) hw5.1 hw5.2)
  have hk := pk_lt a5 m (by omega)
  have ht16 := tdiv16 hw5
  have CPt := Lk.mk (fun W => pick_any (a5.tdiv 16) 7 W (by decide) (by decide) ht16.1 ht16.2)
  have ht := pk_lt (a5.tdiv 16) 7 (by decide)
  have htw : IntKind.i64.wrap (a5.tdiv 16) = a5.tdiv 16 := by rw [IntKind.wrap_i64]; omega
  generalize pk a5 m = k at *
  generalize pk (a5.tdiv 16) 7 = tn at *
  have hkm : k < m := by omega
  obtain ⟨p0, p1, p2, p3⟩ := two_cells HX16.out
  go_upto_block 0 with (first
    | (go_at_call 10; with_reducible refine (CPk.out _).mono ?_; rintro e w' ⟨rfl, rfl⟩)
    | (go_at_call 10; with_reducible refine (CPt.out _).mono ?_; rintro e w' ⟨rfl, rfl⟩))
  have HBp := Lk.mk HPd.out.below
  have C3 := Lk.mk (fun W => pick_any a5 3 W (by decide) (by decide) hw5.1 hw5.2)
  have C9 := Lk.mk (fun W => pick_any a5 9 W (by decide) (by decide) hw5.1 hw5.2)
  have C2 := Lk.mk (fun W => pick_any a5 2 W (by decide) (by decide) hw5.1 hw5.2)
  have C7 := Lk.mk (fun W => pick_any a5 7 W (by decide) (by decide) hw5.1 hw5.2)
  have h7 := pk_lt a5 7 (by decide)
  generalize pk a5 3 = k3 at *
  generalize pk a5 9 = k9 at *
  generalize pk a5 2 = k2 at *
  generalize pk a5 7 = k7 at *
  go_cut [54] (fun _ wx => ∃ (s' : Int) (A' : Option Addr) (n' c' : Nat) (l' : List Pg), Lk (wx.heap[g16]? = some (.cells #[.int .i64 s', .slice A' n' c'] 25 (0, 0))) ∧ n' ≤ 12 ∧ Lk (l'.length = n') ∧ Lk (PgsWf l') ∧ Lk (Pgs wx wx.heap.size A' l') ∧ Lk (Below W1.heap.size W1 wx))
  case first =>
    have hcases : tn = 0 ∨ tn = 1 ∨ tn = 2 ∨ tn = 3 ∨ tn = 4 ∨ tn = 5 ∨ tn = 6 := by omega
    rcases hcases with rfl | rfl | rfl | rfl | rfl | rfl | rfl
    · go_upto_region 9 with fail
      go_region_with (first
        | (go_at_call 10; refine (C3.out _).mono ?_; rintro e w' ⟨rfl, rfl⟩))
      all_goals go_wp2
      all_goals go_meet
      all_goals exact ⟨_, _, _, _, _, ⟨heap_setCell_same _ g16 0 _ _ _ HX16.out⟩, hl2, HM, HWf, ⟨pt_pgs (pt_one_ne _ (HPd.out.on (Below.refl _ W2).drew) (fun k hk => own_ne hk (Ne.symm HGn.out)) HG16.out) HM.out⟩, ⟨HBp.out.drew.setCell (p := ⟨g16, 0, none⟩) HG16.out _⟩⟩
    · have hkmi : (k : Int) < m := by omega
      obtain ⟨hcl, hfz⟩ := pg_cell (f := 0) HPd.out HM.out hkm (by decide)
      rw [show (l.getD k pz).cells[0]? = some (.int .i64 (l.getD k pz).line) from rfl] at hcl
      have hwp := HWf.out.at_ k
      obtain ⟨p, hp⟩ : ∃ p, l.getD k pz = p := ⟨_, rfl⟩
      rw [hp] at hcl hwp
      simp only [Nat.add_zero] at hcl hfz
      go_upto_region 11 with fail
      refine wp_region_still_tail 15 (by kernel_rfl) (by kernel_rfl) ?_
      simp only [List.take_succ_cons, List.take_zero, List.drop_succ_cons, List.drop_zero]
      repeat still_step
      still_call ((C9.out _).mono (fun e w' h => ⟨h.1, h.2.symm⟩))
      repeat still_step
      refine wpStill_nil ?_
      change wpList _ _ _ _ _ W2.drew
      have hcl' : W2.drew.cell? ⟨gA, k * 9, none⟩ = some (.int .i64 p.line) := hcl
      have hfz' : W2.drew.frozen? ⟨gA, k * 9, none⟩ = false := hfz
      have HXe := Lk.mk (box_on HX16.out (Below.refl _ W2).drew)
      have HPe := Lk.mk (HPd.out.on (Below.refl _ W2).drew)
      generalize W2.drew = W2 at *
      clear hcl hfz
      go_wp2
      all_goals go_meet
      have hV : -9223372036854775808 ≤ wrap64 (wrap64 (p.line + k9) - 4) ∧ wrap64 (wrap64 (p.line + k9) - 4) ≤ 9223372036854775807 := wrap64_range _
      generalize wrap64 (wrap64 (p.line + k9) - 4) = V at *
      have hP' := pt_page (f := 0) (x := .int .i64 V) (p' := { p with line := V }) HPe.out (by rw [HM.out]; exact hkm) (by decide) (by rw [hp]; rfl) HGA.out HM.out
      exact ⟨s, some ⟨gA, 0, none⟩, m, cA, l.set k { p with line := V }, ⟨(Below.heap_setCell W2 ⟨gA, k * 9, none⟩ _ g16 HGn.out).trans HXe.out⟩, hl2, ⟨by rw [List.length_set]; exact HM.out⟩, ⟨set_wf HWf.out ⟨hV.1, hV.2, hwp.h, hwp.a, hwp.b, hwp.c, hwp.d, hwp.e, hwp.f, hwp.g⟩⟩, ⟨pt_pgs hP' (by rw [List.length_set]; exact HM.out)⟩, ⟨hP'.below⟩⟩
    · have hkmi : (k : Int) < m := by omega
      obtain ⟨hcl, hfz⟩ := pg_cell (f := 1) HPd.out HM.out hkm (by decide)
      rw [show (l.getD k pz).cells[1]? = some (.int .u64 ((l.getD k pz).head : Int)) from rfl] at hcl
      have hwp := HWf.out.at_ k
      obtain ⟨p, hp⟩ : ∃ p, l.getD k pz = p := ⟨_, rfl⟩
      rw [hp] at hcl hwp
      go_upto_region 13 with fail
      refine wp_region_still_tail 15 (by kernel_rfl) (by kernel_rfl) ?_
      simp only [List.take_succ_cons, List.take_zero, List.drop_succ_cons, List.drop_zero]
      repeat still_step
      still_call ((C3.out _).mono (fun e w' h => ⟨h.1, h.2.symm⟩))
      repeat still_step
      refine wpStill_nil ?_
      change wpList _ _ _ _ _ W2.drew
      have hcl' : W2.drew.cell? ⟨gA, k * 9 + 1, none⟩ = some (.int .u64 (p.head : Int)) := hcl
      have hfz' : W2.drew.frozen? ⟨gA, k * 9 + 1, none⟩ = false := hfz
      have HXe := Lk.mk (box_on HX16.out (Below.refl _ W2).drew)
      have HPe := Lk.mk (HPd.out.on (Below.refl _ W2).drew)
      generalize W2.drew = W2 at *
      clear hcl hfz
      go_wp2
      all_goals go_meet
      obtain ⟨y, hy, hyl⟩ := wrapu_nat ((p.head : Int) + IntKind.u64.wrap (k3 : Int))
      rw [hy]
      have hP' := pt_page (f := 1) (x := .int .u64 (y : Int)) (p' := { p with head := y }) HPe.out (by rw [HM.out]; exact hkm) (by decide) (by rw [hp]; rfl) HGA.out HM.out
      exact ⟨s, some ⟨gA, 0, none⟩, m, cA, l.set k { p with head := y }, ⟨(Below.heap_setCell W2 ⟨gA, k * 9 + 1, none⟩ _ g16 HGn.out).trans HXe.out⟩, hl2, ⟨by rw [List.length_set]; exact HM.out⟩, ⟨set_wf HWf.out ⟨hwp.l0, hwp.l1, hyl, hwp.a, hwp.b, hwp.c, hwp.d, hwp.e, hwp.f, hwp.g⟩⟩, ⟨pt_pgs hP' (by rw [List.length_set]; exact HM.out)⟩, ⟨hP'.below⟩⟩
    · have hkmi : (k : Int) < m := by omega
      obtain ⟨hcl, hfz⟩ := pg_cell (f := 1) HPd.out HM.out hkm (by decide)
      rw [show (l.getD k pz).cells[1]? = some (.int .u64 ((l.getD k pz).head : Int)) from rfl] at hcl
      have hwp := HWf.out.at_ k
      go_upto_region 15 with fail
      refine wp_region_still_tail 9 (by kernel_rfl) (by kernel_rfl) ?_
      simp only [List.take_succ_cons, List.take_zero, List.drop_succ_cons, List.drop_zero]
      repeat still_step
      still_call ((C2.out _).mono (fun e w' h => ⟨h.1, h.2.symm⟩))
      repeat still_step
      refine wpStill_nil ?_
      change wpList _ _ _ _ _ W2.drew
      have hcl' : W2.drew.cell? ⟨gA, k * 9 + 1, none⟩ = some (.int .u64 ((l.getD k pz).head : Int)) := hcl
      have hfz' : W2.drew.frozen? ⟨gA, k * 9 + 1, none⟩ = false := hfz
      have HXe := Lk.mk (box_on HX16.out (Below.refl _ W2).drew)
      have HPe := Lk.mk (HPd.out.on (Below.refl _ W2).drew)
      generalize W2.drew = W2 at *
      clear hcl hfz
      go_wp2
      all_goals go_meet
      obtain ⟨y, hy, hyl⟩ := wrapu_nat (IntKind.u64.wrap (k2 : Int) * 72057594037927680)
      rw [hy]
      have hP' := pt_page (f := 1) (x := .int .u64 (y : Int)) (p' := { l.getD k pz with head := y }) HPe.out (by rw [HM.out]; exact hkm) (by decide) rfl HGA.out HM.out
      exact ⟨s, some ⟨gA, 0, none⟩, m, cA, l.set k { l.getD k pz with head := y }, ⟨(Below.heap_setCell W2 ⟨gA, k * 9 + 1, none⟩ _ g16 HGn.out).trans HXe.out⟩, hl2, ⟨by rw [List.length_set]; exact HM.out⟩, ⟨set_wf HWf.out ⟨hwp.l0, hwp.l1, hyl, hwp.a, hwp.b, hwp.c, hwp.d, hwp.e, hwp.f, hwp.g⟩⟩, ⟨pt_pgs hP' (by rw [List.length_set]; exact HM.out)⟩, ⟨hP'.below⟩⟩
    · have hkmi : (k : Int) < m := by omega
      obtain ⟨hcl, hfz⟩ := pg_cell (f := 2 + k7) HPd.out HM.out hkm (by omega)
      have hwp := HWf.out.at_ k
      obtain ⟨p, hp⟩ : ∃ p, l.getD k pz = p := ⟨_, rfl⟩
      rw [hp] at hcl hwp
      obtain ⟨x, hx, hset⟩ := word_at hwp (k := k7) (by omega)
      rw [hx, ← Nat.add_assoc] at hcl
      rw [← Nat.add_assoc] at hfz
      go_upto_region 17 with fail
      refine wp_region_still_tail 13 (by kernel_rfl) (by kernel_rfl) ?_
      simp only [List.take_succ_cons, List.take_zero, List.drop_succ_cons, List.drop_zero]
      repeat still_step
      still_call ((C7.out _).mono (fun e w' h => ⟨h.1, h.2.symm⟩))
      repeat still_step
      refine wpStill_nil ?_
      change wpList _ _ _ _ _ W2.drew
      have hcl' : W2.drew.cell? ⟨gA, k * 9 + 2 + k7, none⟩ = some (.int .u64 (x : Int)) := hcl
      have hfz' : W2.drew.frozen? ⟨gA, k * 9 + 2 + k7, none⟩ = false := hfz
      have HXe := Lk.mk (box_on HX16.out (Below.refl _ W2).drew)
      have HPe := Lk.mk (HPd.out.on (Below.refl _ W2).drew)
      generalize W2.drew = W2 at *
      clear hcl hfz
      go_wp2
      all_goals go_meet
      obtain ⟨y, hy, hyl⟩ := wrapu_nat ((x : Int) + 1)
      rw [hy]
      obtain ⟨p', hp', hwp'⟩ := hset y hyl
      have hP' := pt_page (f := 2 + k7) (x := .int .u64 (y : Int)) (p' := p') HPe.out (by rw [HM.out]; exact hkm) (by omega) (by rw [hp]; exact hp') HGA.out HM.out
      rw [← Nat.add_assoc] at hP'
      exact ⟨s, some ⟨gA, 0, none⟩, m, cA, l.set k p', ⟨(Below.heap_setCell W2 ⟨gA, k * 9 + 2 + k7, none⟩ _ g16 HGn.out).trans HXe.out⟩, hl2, ⟨by rw [List.length_set]; exact HM.out⟩, ⟨set_wf HWf.out hwp'⟩, ⟨pt_pgs hP' (by rw [List.length_set]; exact HM.out)⟩, ⟨hP'.below⟩⟩
    · go_upto_region 19 with fail
      go_wp2
      all_goals go_meet
      all_goals have hP5 := pgs_tail (pt_pgs (pt_one_ne (f := 1) (.slice (if cA = 1 then some ⟨gA, 0, none⟩ else some ⟨gA, 9, none⟩) (m - 1) (cA - 1)) HPd.out (fun k hk => own_ne hk (Ne.symm HGn.out)) HG16.out) HM.out) HM.out hcA hl1
      · rename_i h
        subst h
        rw [if_pos rfl, if_pos rfl] at hP5
        exact ⟨s, some ⟨gA, 0, none⟩, m - 1, 0, l.drop 1, ⟨heap_setCell_same _ g16 1 _ _ _ HX16.out⟩, by omega, ⟨by rw [List.length_drop, HM.out]⟩, ⟨drop_wf HWf.out 1⟩, ⟨hP5⟩, ⟨HBp.out.setCell (p := ⟨g16, 1, none⟩) HG16.out _⟩⟩
      · rw [if_neg (by assumption), if_neg (by assumption)] at hP5
        exact ⟨s, _, m - 1, cA - 1, l.drop 1, ⟨heap_setCell_same _ g16 1 _ _ _ HX16.out⟩, by omega, ⟨by rw [List.length_drop, HM.out]⟩, ⟨drop_wf HWf.out 1⟩, ⟨hP5⟩, ⟨HBp.out.setCell (p := ⟨g16, 1, none⟩) HG16.out _⟩⟩
    · go_wp2
      all_goals go_meet
      all_goals exact ⟨_, _, _, _, _, HX16, hl2, HM, HWf, ⟨pt_pgs HPd.out HM.out⟩, HBp⟩
  obtain ⟨sD, AD, nD, cD, lD, HXD, hnD, HND, HWD, HPD, HBD⟩ := hcut
  obtain ⟨W3, rfl⟩ : ∃ W : World, W = wc := ⟨_, rfl⟩
  clear p0 p1 p2 p3 CPk CPt C3 C9 C2 C7 h7 hk ht htw ht16 hkm HX16 HPd HG16 HGA HGn HBp
  have HX13c := Lk.mk (box_on HX13b.out HBD.out)
  have HX14c := Lk.mk (box_on HX14b.out HBD.out)
  have HX15c := Lk.mk (box_on HX15.out HBD.out)
  have HPC := Lk.mk (pt_pgs (HPc.out.on HBD.out) HM.out)
  have HB3 := Lk.mk (btr HPc.out.below HBD.out)
  have HPa := Lk.mk ((HP1.out.at_.below HB3.out).more HB3.out.size)
  have HPb := Lk.mk ((HP2.out.at_.below HB3.out).more HB3.out.size)
  have HNa := Lk.mk HP1.out.ln
  have HNb := Lk.mk HP2.out.ln
  have HWa := Lk.mk HP1.out.wf
  clear HX13b HX14b HX15 HPc HBD HB0 HWf
  have CPn := Lk.mk (fun W => pick_any a3 170 W (by decide) (by decide) hw3.1 hw3.2)
  have hnl := pk_lt a3 170 (by decide)
  generalize pk a3 170 = k8 at *
  obtain ⟨L, hL⟩ : ∃ L : Int, (k8 : Int) + 94 = L := ⟨_, rfl⟩
  have hLw : IntKind.i64.wrap ((k8 : Int) + 94) = L := by rw [IntKind.wrap_i64]; omega
  go_upto_region 21 with (first
    | (go_at_call 10; refine (CPn.out _).mono ?_; rintro e w' ⟨rfl, rfl⟩))
  refine Sd.r21 HX13c HX14c HX15c HXD HPa HPb HPC HPD HNa HNb HM HND HWa HWD (by omega) (by omega) hl2 hnD ?_
  intro v133 v134 v135 v136 v137 v138 v139 v140 v141 v142 v143 v144 v145 v146 v147 v148 v149 v150 v151 v152 v153 v154 v155 v156 v157 v158 v159 v160 v161 v162 v163 v164 v165 v166 v167 v168 v169 v170 v171 v172 v173 v174 v175 v176 v177 v178 v179 v180 v181 v182 v183 v184 v185 v186 v187 v188 v189 v190 v191 v192 wx HB4
  go_wp2
  go_ret
  exact ⟨rfl, btr HB3.out HB4.out⟩

set_option maxRecDepth 100000 in
theorem lifted (os : Os) (started : os.Started) (H : Type) (enc : TypeId × Value → H) :
    ReturnsInHanded {} Try.checked os 3 .any (Rows.logrecValidSpec.pre6 enc Try.prog Try.f3 Rows.logrecValidRow.domain false) (Rows.logrecValidSpec.post enc Try.prog Try.f3 false true false false) := by
  refine returnsInHanded_of_change (C := Try.checked) own started (by kernel_rfl) Try.func3
    (ChangeSpec.witness6 (enc := enc) (C := Try.checked) false ⟨#[], #[.int .i64 0, .slice none 0 0, .slice none 0 0, .int .i64 0, .slice none 0 0, .int .i64 0], []⟩ 8 (by kernel_rfl) (by kernel_rfl) (by kernel_rfl) (by kernel_rfl)) ?_
  intro W base args ds gs before hval0 hW hcnd _
  have hval : ∀ (j : Nat) t v, Try.f3.params[j]? = some t → args[j]? = some v → Value.okWide Try.prog W .any base t v := hval0
  have hW' := hW
  obtain ⟨p, q, hA0, hV, rfl, hfz, hnd⟩ := hW
  have hA : DataW.TrodAll enc Try.prog W 0 (fun _ => true) true Try.f3.params.toList args.toList ds p := hA0
  rw [Try.params3] at hA hval
  obtain ⟨v0, vs0, d0, ds0, p0, q0, hargs, rfl, rfl, h0, r0⟩ := trodAll_cons hA
  obtain ⟨v1, vs1, d1, ds1, p1, q1, rfl, rfl, rfl, h1, r1⟩ := trodAll_cons r0
  obtain ⟨v2, vs2, d2, ds2, p2, q2, rfl, rfl, rfl, h2, r2⟩ := trodAll_cons r1
  obtain ⟨v3, vs3, d3, ds3, p3, q3, rfl, rfl, rfl, h3, r3⟩ := trodAll_cons r2
  obtain ⟨v4, vs4, d4, ds4, p4, q4, rfl, rfl, rfl, h4, r4⟩ := trodAll_cons r3
  obtain ⟨v5, vs5, d5, ds5, p5, q5, rfl, rfl, rfl, h5, r5⟩ := trodAll_cons r4
  obtain ⟨rfl, rfl, rfl⟩ := trodAll_nil r5
  obtain rfl : args = #[v0, v1, v2, v3, v4, v5] := by cases args; simp_all
  obtain ⟨rfl, rfl⟩ := trodVars_none hV
  obtain ⟨a0, rfl, rfl, rfl, w0⟩ := open_int Try.underlying3 (hval 0 3 v0 rfl rfl) h0
  obtain ⟨a1, len1, cap1, rfl⟩ := okWide_slice Try.underlying22 (hval 1 22 v1 rfl rfl)
  have k1 := h1
  have lt1 : ∀ x ∈ p1, x.block < W.heap.size := by obtain ⟨m, hm⟩ := k1; exact DataW.trod_lt m _ _ _ hm
  obtain ⟨l1, w1⟩ : ∃ l, IsPgs W a1 len1 cap1 l := by
    obtain ⟨fuel, hf⟩ := h1
    exact pages_of hf
  obtain ⟨a2, len2, cap2, rfl⟩ := okWide_slice Try.underlying22 (hval 2 22 v2 rfl rfl)
  have k2 := h2
  have lt2 : ∀ x ∈ p2, x.block < W.heap.size := by obtain ⟨m, hm⟩ := k2; exact DataW.trod_lt m _ _ _ hm
  obtain ⟨l2, w2⟩ : ∃ l, IsPgs W a2 len2 cap2 l := by
    obtain ⟨fuel, hf⟩ := h2
    exact pages_of hf
  obtain ⟨a3, rfl, rfl, rfl, w3⟩ := open_int Try.underlying3 (hval 3 3 v3 rfl rfl) h3
  obtain ⟨a4, len4, cap4, rfl⟩ := okWide_slice Try.underlying23 (hval 4 23 v4 rfl rfl)
  have k4 := h4
  have lt4 : ∀ x ∈ p4, x.block < W.heap.size := by obtain ⟨m, hm⟩ := k4; exact DataW.trod_lt m _ _ _ hm
  obtain ⟨z4, w4⟩ : ∃ zs, IsRow .i64 W a4 len4 cap4 zs := by
    obtain ⟨fuel, hf⟩ := h4
    exact nums_of hf
  obtain ⟨a5, rfl, rfl, rfl, w5⟩ := open_int Try.underlying3 (hval 5 3 v5 rfl rfl) h5
  clear hA0 hval0
  refine (walk a0 a1 len1 cap1 l1 a2 len2 cap2 l2 a3 a4 len4 cap4 z4 a5 W w0 w1 w2 w3 w4 w5).mono fun e W' ⟨he, bel⟩ => ?_
  subst he
  exact ⟨_, rfl, _, _, _, [], _, [], hW', trodAll_mk1 (shut_bool Try.underlying4 _), (trodAll_cons_mk (shut_int Try.underlying3 w0) (trodAll_cons_mk (Below.trod laidOut (by kernel_rfl) (of_decide_eq_true (by kernel_rfl)) k1 bel lt1) (trodAll_cons_mk (Below.trod laidOut (by kernel_rfl) (of_decide_eq_true (by kernel_rfl)) k2 bel lt2) (trodAll_cons_mk (shut_int Try.underlying3 w3) (trodAll_cons_mk (Below.trod laidOut (by kernel_rfl) (of_decide_eq_true (by kernel_rfl)) k4 bel lt4) (trodAll_cons_mk (shut_int Try.underlying3 w5) trodAll_mk0)))))), rfl, bel.frame _, fun h => by cases h⟩

theorem over : Rows.logrecValidRow.holds Try.pinned (OpenSpec.ofChange Rows.logrecValidSpec) :=
  OpenClaim.holds_of_wide 3 Try.f3 rfl rfl rfl rfl rfl rfl rfl ⟨rfl, rfl, rfl, rfl, rfl⟩ rfl rfl rfl rfl rfl (by kernel_rfl) Try.func3 (by kernel_rfl)
    (of_decide_eq_true (by kernel_rfl)) (by unfold Func.isWrapper; first | (rw [if_pos (by decide +kernel)]; kernel_rfl) | (rw [if_neg (by decide +kernel)]; exact ⟨rfl, rfl⟩))
    (fun os started H enc _ => lifted os started H enc)

/-- ████ THE STATEMENT ████ -/
theorem proved : Rows.LogrecValidSaid := over
end Go.Proofs.Ytdodigfojbijfaa.logrecValid
