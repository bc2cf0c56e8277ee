/-
  Contracts: whole and committed logs, the reference's.
-/
import Derived.Test.YtdodigfojbijfaaSa
namespace Go.Proofs.Ytdodigfojbijfaa.Sb
open Go.ChangeShapes Go.WideShapes Go.ChangeAt Go.RowKit Ga Gb Ra Rb Rc Rd Re Rf Rg Rh Ri Rj Rk Rl Rm Rn Ro Rp Rr Rs Rt Ru Rv Rw Rx Ry Rz Sa Un
set_option linter.unusedVariables false
set_option linter.unusedSimpArgs false
set_option maxRecDepth 10000
set_option maxHeartbeats 1000000

theorem refWhole_any (A : Option Addr) (l : List Nat) (lines : Int) (n c : Nat) (w : World) (hn : l.length = n) (hb : n ≤ 4294967296) (hc : n ≤ c) (hc2 : c ≤ 9223372036854775807) (hw : Lk (∀ x ∈ l, x < 18446744073709551616)) (h1 : Lk (Lies .u64 w w.heap.size A l)) :
    Calls Try.prog 26 #[.slice A n c, .int .i64 lines] w (LogPost (wholeS l lines) (wholeL l lines) (wholeE l lines) w) := by
  have HZ0 := Lk.mk (Zt.start 25 w)
  by_cases h120 : n = 120
  · subst h120
    obtain ⟨e1, e2, e3⟩ := whole_parse (lines := lines) hn
    rw [e1, e2, e3]
    clear e1 e2 e3
    have hs := fun (w : World) => slice_eight A 120 c w (by decide) hc
    have CP := Lk.mk (fun (W : World) (hB : Below w.heap.size w W) => refParse_any (if c = 8 then A else A.map (·.add (8 * 1))) (l.drop 8) lines (120 - 8) (c - 8) W (by rw [List.length_drop, hn]) (by decide) (by omega) (by omega) ⟨drop_lt hw.out 8⟩ ⟨Lies.drop8 ((h1.out.below hB).more hB.size) (by omega)⟩)
    generalize (if c = 8 then A else A.map (·.add (8 * 1))) = A8 at *
    generalize l.drop 8 = b at *
    unfold ParsePost rcv at CP
    have HB0 := Lk.mk (one_alloc w (.cells #[.int .i64 0, .slice none 0 0] 25))
    generalize parseS b lines = s at *
    generalize parseL b lines = pl at *
    generalize parseE b lines = pe at *
    obtain ⟨m, hm⟩ : ∃ m, pl.length = m := ⟨_, rfl⟩
    have HM := Lk.mk hm
    rw [hm] at CP
    clear hm
    simp only [Nat.reduceSub] at hs CP
    go_enter Try.func26, Try.ntmps26
    go_upto_region 4 with (first
      | (go_at_call 21; refine (CP.out _ HB0.out).mono ?_; rintro e w1 ⟨A1, c1, rfl, HP⟩))
    have HZ1 := Lk.mk ((HZ0.out.on HP.out.below).on (one_alloc w1 (.cells #[.int .i64 s, .slice A1 m c1] 25)))
    have HP1 := Lk.mk (HP.out.on (one_alloc w1 (.cells #[.int .i64 s, .slice A1 m c1] 25)))
    have HRn := Lk.mk (heap_alloc_new w1 (.cells #[.int .i64 s, .slice A1 m c1] 25))
    obtain ⟨g, hg⟩ : ∃ g, w1.heap.size = g := ⟨_, rfl⟩
    rw [hg] at HRn ⊢
    clear hg HP HZ0 CP
    generalize w1.alloc _ = W at *
    obtain ⟨r0, r1, _, _⟩ := two_cells HRn.out
    obtain ⟨z0, z1, z2, z3⟩ := two_cells HZ1.out.z
    go_wp2
    refine bodyPost_ret (ref_two rfl _ _ w.heap.size #[.int .i64 s, .slice A1 m c1] rfl rfl (two_set _ _ _ _ HZ1.out.z)) rfl ?_
    unfold LogPost
    rw [HM.out]
    have hq : (pe == 0) = decide (pe = 0) := by rw [Bool.eq_iff_iff]; simp
    exact ⟨A1, c1, by simp [rcv, hq], ⟨pt_two _ _ HP1.out HZ1.out.below (by simp)⟩⟩
  · obtain ⟨e1, e2, e3⟩ := whole_no (lines := lines) (show l.length ≠ 120 by omega)
    have HE := Lk.mk (And.intro e1 (And.intro e2 e3))
    have k1 : ¬ (n : Int) = 120 := by omega
    clear e1 e2 e3
    go_enter Try.func26, Try.ntmps26
    go_wp2
    refine bodyPost_ret (ref_two rfl _ _ w.heap.size #[.int .i64 0, .slice none 0 0] rfl rfl HZ0.out.z) rfl ?_
    exact log_no HE.out.2.1 HE.out.2.2 HE.out.1 HZ0.out.below
theorem refCommitted_any (A : Option Addr) (l : List Nat) (lines : Int) (n c : Nat) (w : World) (hn : l.length = n) (hb : n ≤ 4294967296) (hc : n ≤ c) (hc2 : c ≤ 9223372036854775807) (hw : Lk (∀ x ∈ l, x < 18446744073709551616)) (h1 : Lk (Lies .u64 w w.heap.size A l)) :
    Calls Try.prog 28 #[.slice A n c, .int .i64 lines] w (LogPost (commS l lines) (commL l lines) (commE l lines) w) := by
  have HZ0 := Lk.mk (Zt.start 25 w)
  have CP := Lk.mk (fun (W : World) (hB : Below w.heap.size w W) => refWhole_any A l lines n c W hn hb hc hc2 hw ⟨(h1.out.below hB).more hB.size⟩)
  unfold LogPost rcv at CP
  have HB0 := Lk.mk (one_alloc w (.cells #[.int .i64 0, .slice none 0 0] 25))
  obtain ⟨m, hm⟩ : ∃ m, (wholeL l lines).length = m := ⟨_, rfl⟩
  have HM := Lk.mk hm
  rw [hm] at CP
  clear hm
  cases hE : wholeE l lines
  · rw [hE] at CP
    have hC : commE l lines = false := by rw [commE, hE]; rfl
    have HC := Lk.mk (And.intro hC (And.intro (show commS l lines = 0 from by rw [commS, hC]; rfl) (show commL l lines = [] from by rw [commL, hC]; rfl)))
    clear hC hE
    go_enter Try.func28, Try.ntmps28
    go_upto_region 2 with (first
      | (go_at_call 26; refine (CP.out _ HB0.out).mono ?_; rintro e w1 ⟨A1, c1, rfl, HP⟩))
    have HZ1 := Lk.mk ((HZ0.out.on HP.out.below).on (one_alloc w1 (.cells #[.int .i64 (wholeS l lines), .slice A1 m c1] 25)))
    clear HP HZ0 CP
    generalize w1.alloc _ = W at *
    obtain ⟨z0, z1, z2, z3⟩ := two_cells HZ1.out.z
    go_wp2
    refine bodyPost_ret (ref_two rfl _ _ w.heap.size #[.int .i64 0, .slice none 0 0] rfl rfl (two_set _ _ _ _ HZ1.out.z)) rfl ?_
    exact log_no HC.out.2.1 HC.out.2.2 HC.out.1 (two_below _ _ HZ1.out.below (Nat.le_refl _))
  · rw [hE] at CP
    obtain ⟨hl, hv, _⟩ := whole_seq hE
    obtain ⟨_, hs, _⟩ := valid_zero hv
    obtain ⟨m1, m2, m3⟩ := mark_ok hs
    obtain ⟨ad, rfl, hab, hcell⟩ := h1.out (by omega)
    have hc0 := hcell 0 (by omega)
    have HCE := Lk.mk (show commE l lines = ((wd l 0 : Int) == Wb.markV (wholeS l lines)) from by rw [commE, hE]; rfl)
    have HCS := Lk.mk (show commS l lines = if commE l lines = true then wholeS l lines else 0 from rfl)
    have HCL := Lk.mk (show commL l lines = if commE l lines = true then wholeL l lines else [] from rfl)
    have CM := Lk.mk (fun W => Wb.mark_ref (wholeS l lines) W)
    rw [m1] at CM
    have hn1 : 1 ≤ n := by omega
    have hx0 : w.cell? ad = some (.int .u64 ((wd l 0 : Nat) : Int)) := hc0
    clear hE hl hv m1 hcell hc0
    generalize wholeS l lines = s at *
    generalize wholeL l lines = pl at *
    generalize wd l 0 = x at *
    generalize Wb.markV s = mk at *
    go_enter Try.func28, Try.ntmps28
    go_upto_region 2 with (first
      | (go_at_call 26; refine (CP.out _ HB0.out).mono ?_; rintro e w1 ⟨A1, c1, rfl, HP⟩))
    have HZ1 := Lk.mk ((HZ0.out.on HP.out.below).on (one_alloc w1 (.cells #[.int .i64 s, .slice A1 m c1] 25)))
    have HP1 := Lk.mk (HP.out.on (one_alloc w1 (.cells #[.int .i64 s, .slice A1 m c1] 25)))
    have HRn := Lk.mk (heap_alloc_new w1 (.cells #[.int .i64 s, .slice A1 m c1] 25))
    obtain ⟨g, hg⟩ : ∃ g, w1.heap.size = g := ⟨_, rfl⟩
    rw [hg] at HRn ⊢
    clear hg HP HZ0 CP
    generalize w1.alloc _ = W at *
    obtain ⟨r0, r1, _, _⟩ := two_cells HRn.out
    obtain ⟨z0, z1, z2, z3⟩ := two_cells HZ1.out.z
    have x0 := (HZ1.out.below.cell (p := ad) hab).trans hx0
    have hni : (0 : Int) < n := by omega
    by_cases hq : (x : Int) = mk
    · have hqb : ((x : Int) == mk) = true := by rw [hq]; simp
      rw [hqb] at HCE
      rw [HCE.out, if_pos rfl] at HCS HCL
      go_wp2_with (first
        | (go_at_call 23; refine (CM.out _).mono ?_; rintro e w' ⟨rfl, rfl⟩))
      refine bodyPost_ret (ref_two rfl _ _ w.heap.size #[.int .i64 s, .slice A1 m c1] rfl rfl (two_set _ _ _ _ HZ1.out.z)) rfl ?_
      unfold LogPost
      rw [HCS.out, HCL.out, HCE.out, HM.out]
      exact ⟨A1, c1, rfl, ⟨pt_two _ _ HP1.out HZ1.out.below (by simp)⟩⟩
    · have hqb : ((x : Int) == mk) = false := by simp [hq]
      rw [hqb] at HCE
      rw [HCE.out, if_neg (by decide)] at HCS HCL
      go_wp2_with (first
        | (go_at_call 23; refine (CM.out _).mono ?_; rintro e w' ⟨rfl, rfl⟩))
      refine bodyPost_ret (ref_two rfl _ _ w.heap.size #[.int .i64 0, .slice none 0 0] rfl rfl (two_set _ _ _ _ HZ1.out.z)) rfl ?_
      exact log_no HCS.out HCL.out HCE.out (two_below _ _ HZ1.out.below (Nat.le_refl _))
/-- Four boxes of two cells as calls go on. -/
theorem oct_on {w0 W1 W2 : World} {g1 g2 g3 g4 : Nat} {x1 y1 x2 y2 x3 y3 x4 y4 : Value} (k : W1.cell? ⟨g1, 0, none⟩ = some x1 ∧ W1.cell? ⟨g1, 1, none⟩ = some y1 ∧ W1.cell? ⟨g2, 0, none⟩ = some x2 ∧ W1.cell? ⟨g2, 1, none⟩ = some y2 ∧ W1.cell? ⟨g3, 0, none⟩ = some x3 ∧ W1.cell? ⟨g3, 1, none⟩ = some y3 ∧ W1.cell? ⟨g4, 0, none⟩ = some x4 ∧ W1.cell? ⟨g4, 1, none⟩ = some y4 ∧ Lk (Below w0.heap.size w0 W1)) (hb : Lk (Below W1.heap.size W1 W2)) : W2.cell? ⟨g1, 0, none⟩ = some x1 ∧ W2.cell? ⟨g1, 1, none⟩ = some y1 ∧ W2.cell? ⟨g2, 0, none⟩ = some x2 ∧ W2.cell? ⟨g2, 1, none⟩ = some y2 ∧ W2.cell? ⟨g3, 0, none⟩ = some x3 ∧ W2.cell? ⟨g3, 1, none⟩ = some y3 ∧ W2.cell? ⟨g4, 0, none⟩ = some x4 ∧ W2.cell? ⟨g4, 1, none⟩ = some y4 ∧ Lk (Below w0.heap.size w0 W2) :=
  ⟨(hb.out.cell (block_lt_of_cell k.1)).trans k.1, (hb.out.cell (block_lt_of_cell k.2.1)).trans k.2.1, (hb.out.cell (block_lt_of_cell k.2.2.1)).trans k.2.2.1, (hb.out.cell (block_lt_of_cell k.2.2.2.1)).trans k.2.2.2.1, (hb.out.cell (block_lt_of_cell k.2.2.2.2.1)).trans k.2.2.2.2.1, (hb.out.cell (block_lt_of_cell k.2.2.2.2.2.1)).trans k.2.2.2.2.2.1, (hb.out.cell (block_lt_of_cell k.2.2.2.2.2.2.1)).trans k.2.2.2.2.2.2.1, (hb.out.cell (block_lt_of_cell k.2.2.2.2.2.2.2.1)).trans k.2.2.2.2.2.2.2.1, ⟨btr k.2.2.2.2.2.2.2.2.out hb.out⟩⟩
theorem oct_below {w0 W1 : World} {g1 g2 g3 g4 : Nat} {x1 y1 x2 y2 x3 y3 x4 y4 : Value} (k : W1.cell? ⟨g1, 0, none⟩ = some x1 ∧ W1.cell? ⟨g1, 1, none⟩ = some y1 ∧ W1.cell? ⟨g2, 0, none⟩ = some x2 ∧ W1.cell? ⟨g2, 1, none⟩ = some y2 ∧ W1.cell? ⟨g3, 0, none⟩ = some x3 ∧ W1.cell? ⟨g3, 1, none⟩ = some y3 ∧ W1.cell? ⟨g4, 0, none⟩ = some x4 ∧ W1.cell? ⟨g4, 1, none⟩ = some y4 ∧ Lk (Below w0.heap.size w0 W1)) : Below w0.heap.size w0 W1 := k.2.2.2.2.2.2.2.2.out
theorem wholeL_len (b : List Nat) (L : Int) : (wholeL b L).length ≤ 12 := by
  unfold wholeL
  split
  · rename_i h
    obtain ⟨_, h2, _⟩ := whole_seq h
    obtain ⟨_, _, h4, _⟩ := valid_zero h2
    rw [wholeL, if_pos h] at h4
    omega
  · simp
theorem commL_len (b : List Nat) (L : Int) : (commL b L).length ≤ 12 := by
  unfold commL
  split
  · exact wholeL_len b L
  · simp
theorem mark_nat (s : Int) : 0 ≤ Wb.markV s ∧ Wb.markV s < 18446744073709551616 := by
  unfold Wb.markV
  split <;> omega
end Go.Proofs.Ytdodigfojbijfaa.Sb
