/-
  Contracts: whole and committed logs, the program's.
-/
import Derived.Test.YtdodigfojbijfaaRu
namespace Go.Proofs.Ytdodigfojbijfaa.Rw
open Go.ChangeShapes Go.WideShapes Go.ChangeAt Go.RowKit Ga Gb Ra Rb Rc Rd Re Rf Rg Rh Ri Rj Rk Rl Rm Rn Ro Rp Rr Rs Rt Ru Un
set_option linter.unusedVariables false
set_option linter.unusedSimpArgs false
set_option maxRecDepth 10000
set_option maxHeartbeats 1000000

/-- What a log holds: 8.3. -/
def wholeE (l : List Nat) (lines : Int) : Bool := decide (l.length = 120) && decide (parseE (l.drop 8) lines = 0)
def wholeS (l : List Nat) (lines : Int) : Int := if wholeE l lines = true then unpS (l.drop 8) else 0
def wholeL (l : List Nat) (lines : Int) : List Pg := if wholeE l lines = true then unpL (l.drop 8) else []
def commE (l : List Nat) (lines : Int) : Bool := wholeE l lines && ((wd l 0 : Int) == Wb.markV (wholeS l lines))
def commS (l : List Nat) (lines : Int) : Int := if commE l lines = true then wholeS l lines else 0
def commL (l : List Nat) (lines : Int) : List Pg := if commE l lines = true then wholeL l lines else []
theorem whole_parse {l : List Nat} {lines : Int} (h : l.length = 120) : wholeE l lines = decide (parseE (l.drop 8) lines = 0) ∧ wholeS l lines = parseS (l.drop 8) lines ∧ wholeL l lines = parseL (l.drop 8) lines := by
  have e : wholeE l lines = decide (parseE (l.drop 8) lines = 0) := by rw [wholeE, decide_eq_true h, Bool.true_and]
  refine ⟨e, ?_, ?_⟩
  · rw [wholeS, parseS, e]; simp
  · rw [wholeL, parseL, e]; simp
theorem whole_no {l : List Nat} {lines : Int} (h : l.length ≠ 120) : wholeE l lines = false ∧ wholeS l lines = 0 ∧ wholeL l lines = [] := by
  have e : wholeE l lines = false := by rw [wholeE, decide_eq_false h, Bool.false_and]
  exact ⟨e, by rw [wholeS, e]; rfl, by rw [wholeL, e]; rfl⟩
/-- What Whole and Committed hand back. -/
def LogPost (s : Int) (l : List Pg) (b : Bool) (w : World) (e : Ending) (w' : World) : Prop :=
  ∃ A' c', e = .returned (.tuple #[rcv s A' l.length c', .bool b]) ∧ Lk (Pt w w.heap.size w' (.slice A' l.length c') l)
theorem log_no {s : Int} {l : List Pg} {b : Bool} {w w' : World} (hs : s = 0) (hl : l = []) (hb : b = false) (hB : Below w.heap.size w w') : LogPost s l b w (.returned (.tuple #[.agg #[.int .i64 0, .slice none 0 0], .bool false])) w' := by
  subst hs hl hb
  exact ⟨none, 0, rfl, ⟨World.ownsRow_nil _ _ _ _, hB⟩⟩
theorem slice_eight (A : Option Addr) (n c : Nat) (w : World) (h : (8 : Int) ≤ (n : Int)) (hc : n ≤ c) :
    (Instr.sliceAt 41 (.slice A n c) (some (.int .i64 8)) none none).run Try.prog w = .ok (.slice (if c = 8 then A else A.map (·.add (8 * 1))) (n - 8) (c - 8)) w := by
  rw [run_sliceAt_slice _ _ _ _ _ _ under_words, run_slice_l _ _ _ _ _ under_words _ _ (by decide) h, size_word]
  simp only [Result.andThen, sliced]
  rfl
theorem Lies.drop8 {w : World} {B : Nat} {A : Option Addr} {l : List Nat} {c : Nat} (h : Lies .u64 w B A l) (hc : l.length ≤ c) : Lies .u64 w B (if c = 8 then A else A.map (·.add (8 * 1))) (l.drop 8) := by
  intro hn
  rw [List.length_drop] at hn
  obtain ⟨ad, rfl, hb, hcell⟩ := h (by omega)
  rw [if_neg (by omega)]
  refine ⟨ad.add (8 * 1), rfl, by rw [block_of_add]; exact hb, fun j hj => ?_⟩
  rw [List.length_drop] at hj
  rw [add_of_add, hcell (8 * 1 + j) (by omega)]
  have : (l.drop 8).getD j 0 = l.getD (8 * 1 + j) 0 := by
    rw [List.getD_eq_getElem?_getD, List.getD_eq_getElem?_getD, List.getElem?_drop]
  rw [this]
theorem drop_lt {l : List Nat} {m : Nat} (h : ∀ x ∈ l, x < m) (k : Nat) : ∀ x ∈ l.drop k, x < m := fun x hx => h x (List.mem_of_mem_drop hx)
theorem whole_any (A : Option Addr) (l : List Nat) (lines : Int) (n c : Nat) (w : World) (hn : l.length = n) (hb : n ≤ 4294967296) (hc : n ≤ c) (hc2 : c ≤ 9223372036854775807) (hw : Lk (∀ x ∈ l, x < 18446744073709551616)) (h1 : Lk (Lies .u64 w w.heap.size A l)) :
    Calls Try.prog 25 #[.slice A n c, .int .i64 lines] w (LogPost (wholeS l lines) (wholeL l lines) (wholeE l lines) w) := by
  have HZ0 := Lk.mk (Zt.start 35 w)
  by_cases h120 : n = 120
  · subst h120
    obtain ⟨e1, e2, e3⟩ := whole_parse (lines := lines) hn
    rw [e1, e2, e3]
    clear e1 e2 e3
    have hs := fun (w : World) => slice_eight A 120 c w (by decide) hc
    have CP := Lk.mk (fun (W : World) (hB : Below w.heap.size w W) => parse_any (if c = 8 then A else A.map (·.add (8 * 1))) (l.drop 8) lines (120 - 8) (c - 8) W (by rw [List.length_drop, hn]) (by decide) (by omega) (by omega) ⟨drop_lt hw.out 8⟩ ⟨Lies.drop8 ((h1.out.below hB).more hB.size) (by omega)⟩)
    generalize (if c = 8 then A else A.map (·.add (8 * 1))) = A8 at *
    generalize l.drop 8 = b at *
    unfold rcv at CP
    have HB0 := Lk.mk (one_alloc w (.cells #[.int .i64 0, .slice none 0 0] 35))
    generalize parseS b lines = s at *
    generalize parseL b lines = pl at *
    generalize parseE b lines = pe at *
    obtain ⟨m, hm⟩ : ∃ m, pl.length = m := ⟨_, rfl⟩
    have HM := Lk.mk hm
    rw [hm] at CP
    clear hm
    simp only [Nat.reduceSub] at hs CP
    go_enter Try.func25, Try.ntmps25
    go_upto_region 4 with (first
      | (go_at_call 20; refine (CP.out _ HB0.out).mono ?_; rintro e w1 ⟨A1, c1, rfl, HP⟩))
    have HZ1 := Lk.mk ((HZ0.out.on HP.out.below).on (one_alloc w1 (.cells #[.int .i64 s, .slice A1 m c1] 35)))
    have HP1 := Lk.mk (HP.out.on (one_alloc w1 (.cells #[.int .i64 s, .slice A1 m c1] 35)))
    have HRn := Lk.mk (heap_alloc_new w1 (.cells #[.int .i64 s, .slice A1 m c1] 35))
    obtain ⟨g, hg⟩ : ∃ g, w1.heap.size = g := ⟨_, rfl⟩
    rw [hg] at HRn ⊢
    clear hg HP HZ0 CP
    generalize w1.alloc _ = W at *
    obtain ⟨r0, r1, _, _⟩ := two_cells HRn.out
    obtain ⟨z0, z1, z2, z3⟩ := two_cells HZ1.out.z
    go_wp2
    refine bodyPost_ret (results_two rfl _ _ w.heap.size #[.int .i64 s, .slice A1 m c1] rfl rfl (two_set _ _ _ _ HZ1.out.z)) rfl ?_
    unfold LogPost
    rw [HM.out]
    have hq : (pe == 0) = decide (pe = 0) := by rw [Bool.eq_iff_iff]; simp
    exact ⟨A1, c1, by simp [rcv, hq], ⟨pt_two _ _ HP1.out HZ1.out.below (by simp)⟩⟩
  · obtain ⟨e1, e2, e3⟩ := whole_no (lines := lines) (show l.length ≠ 120 by omega)
    have HE := Lk.mk (And.intro e1 (And.intro e2 e3))
    have k1 : ¬ (n : Int) = 120 := by omega
    clear e1 e2 e3
    go_enter Try.func25, Try.ntmps25
    go_wp2
    refine bodyPost_ret (results_two rfl _ _ w.heap.size #[.int .i64 0, .slice none 0 0] rfl rfl HZ0.out.z) rfl ?_
    exact log_no HE.out.2.1 HE.out.2.2 HE.out.1 HZ0.out.below
theorem whole_seq {l : List Nat} {lines : Int} (h : wholeE l lines = true) : l.length = 120 ∧ validR (wholeS l lines) (wholeL l lines) lines = 0 ∧ bodyW (wholeS l lines) (wholeL l lines) = (l.drop 8).take (3 + 9 * (wholeL l lines).length) := by
  have h' := h
  rw [wholeE, Bool.and_eq_true, decide_eq_true_eq, decide_eq_true_eq] at h'
  refine ⟨h'.1, ?_⟩
  rw [wholeS, wholeL, if_pos h, if_pos h]
  have h2 := h'.2
  unfold parseE at h2
  split at h2
  · split at h2
    · rename_i h3; exact h3
    · cases h2
  · cases h2
theorem mark_ok {s : Int} (h : 1 ≤ s ∧ s ≤ 1073741823) : Wb.markE s = 0 ∧ 0 ≤ Wb.markV s ∧ Wb.markV s < 18446744073709551616 := by
  unfold Wb.markE Wb.markV
  rw [if_pos h, if_pos h]; omega
theorem committed_any (A : Option Addr) (l : List Nat) (lines : Int) (n c : Nat) (w : World) (hn : l.length = n) (hb : n ≤ 4294967296) (hc : n ≤ c) (hc2 : c ≤ 9223372036854775807) (hw : Lk (∀ x ∈ l, x < 18446744073709551616)) (h1 : Lk (Lies .u64 w w.heap.size A l)) :
    Calls Try.prog 27 #[.slice A n c, .int .i64 lines] w (LogPost (commS l lines) (commL l lines) (commE l lines) w) := by
  have HZ0 := Lk.mk (Zt.start 35 w)
  have CP := Lk.mk (fun (W : World) (hB : Below w.heap.size w W) => whole_any A l lines n c W hn hb hc hc2 hw ⟨(h1.out.below hB).more hB.size⟩)
  unfold LogPost rcv at CP
  have HB0 := Lk.mk (one_alloc w (.cells #[.int .i64 0, .slice none 0 0] 35))
  obtain ⟨m, hm⟩ : ∃ m, (wholeL l lines).length = m := ⟨_, rfl⟩
  have HM := Lk.mk hm
  rw [hm] at CP
  clear hm
  cases hE : wholeE l lines
  · rw [hE] at CP
    have hC : commE l lines = false := by rw [commE, hE]; rfl
    have HC := Lk.mk (And.intro hC (And.intro (show commS l lines = 0 from by rw [commS, hC]; rfl) (show commL l lines = [] from by rw [commL, hC]; rfl)))
    clear hC hE
    go_enter Try.func27, Try.ntmps27
    go_upto_region 2 with (first
      | (go_at_call 25; refine (CP.out _ HB0.out).mono ?_; rintro e w1 ⟨A1, c1, rfl, HP⟩))
    have HZ1 := Lk.mk ((HZ0.out.on HP.out.below).on (one_alloc w1 (.cells #[.int .i64 (wholeS l lines), .slice A1 m c1] 35)))
    clear HP HZ0 CP
    generalize w1.alloc _ = W at *
    obtain ⟨z0, z1, z2, z3⟩ := two_cells HZ1.out.z
    go_wp2
    refine bodyPost_ret (results_two rfl _ _ w.heap.size #[.int .i64 0, .slice none 0 0] rfl rfl (two_set _ _ _ _ HZ1.out.z)) rfl ?_
    exact log_no HC.out.2.1 HC.out.2.2 HC.out.1 (two_below _ _ HZ1.out.below (Nat.le_refl _))
  · rw [hE] at CP
    obtain ⟨hl, hv, _⟩ := whole_seq hE
    obtain ⟨_, hs, _⟩ := valid_zero hv
    obtain ⟨m1, m2, m3⟩ := mark_ok hs
    obtain ⟨ad, rfl, hab, hcell⟩ := h1.out (by omega)
    have hc0 := hcell 0 (by omega)
    have HCE := Lk.mk (show commE l lines = ((wd l 0 : Int) == Wb.markV (wholeS l lines)) from by rw [commE, hE]; rfl)
    have HCS := Lk.mk (show commS l lines = if commE l lines = true then wholeS l lines else 0 from rfl)
    have HCL := Lk.mk (show commL l lines = if commE l lines = true then wholeL l lines else [] from rfl)
    have CM := Lk.mk (fun W => Wb.mark_any (wholeS l lines) W)
    rw [m1] at CM
    have hn1 : 1 ≤ n := by omega
    have hx0 : w.cell? ad = some (.int .u64 ((wd l 0 : Nat) : Int)) := hc0
    clear hE hl hv m1 hcell hc0
    generalize wholeS l lines = s at *
    generalize wholeL l lines = pl at *
    generalize wd l 0 = x at *
    generalize Wb.markV s = mk at *
    go_enter Try.func27, Try.ntmps27
    go_upto_region 2 with (first
      | (go_at_call 25; refine (CP.out _ HB0.out).mono ?_; rintro e w1 ⟨A1, c1, rfl, HP⟩))
    have HZ1 := Lk.mk ((HZ0.out.on HP.out.below).on (one_alloc w1 (.cells #[.int .i64 s, .slice A1 m c1] 35)))
    have HP1 := Lk.mk (HP.out.on (one_alloc w1 (.cells #[.int .i64 s, .slice A1 m c1] 35)))
    have HRn := Lk.mk (heap_alloc_new w1 (.cells #[.int .i64 s, .slice A1 m c1] 35))
    obtain ⟨g, hg⟩ : ∃ g, w1.heap.size = g := ⟨_, rfl⟩
    rw [hg] at HRn ⊢
    clear hg HP HZ0 CP
    generalize w1.alloc _ = W at *
    obtain ⟨r0, r1, _, _⟩ := two_cells HRn.out
    obtain ⟨z0, z1, z2, z3⟩ := two_cells HZ1.out.z
    have x0 := (HZ1.out.below.cell (p := ad) hab).trans hx0
    have hni : (0 : Int) < n := by omega
    by_cases hq : (x : Int) = mk
    · have hqb : ((x : Int) == mk) = true := by rw [hq]; simp
      rw [hqb] at HCE
      rw [HCE.out, if_pos rfl] at HCS HCL
      go_wp2_with (first
        | (go_at_call 51; refine (CM.out _).mono ?_; rintro e w' ⟨rfl, rfl⟩))
      refine bodyPost_ret (results_two rfl _ _ w.heap.size #[.int .i64 s, .slice A1 m c1] rfl rfl (two_set _ _ _ _ HZ1.out.z)) rfl ?_
      unfold LogPost
      rw [HCS.out, HCL.out, HCE.out, HM.out]
      exact ⟨A1, c1, rfl, ⟨pt_two _ _ HP1.out HZ1.out.below (by simp)⟩⟩
    · have hqb : ((x : Int) == mk) = false := by simp [hq]
      rw [hqb] at HCE
      rw [HCE.out, if_neg (by decide)] at HCS HCL
      go_wp2_with (first
        | (go_at_call 51; refine (CM.out _).mono ?_; rintro e w' ⟨rfl, rfl⟩))
      refine bodyPost_ret (results_two rfl _ _ w.heap.size #[.int .i64 0, .slice none 0 0] rfl rfl (two_set _ _ _ _ HZ1.out.z)) rfl ?_
      exact log_no HCS.out HCL.out HCE.out (two_below _ _ HZ1.out.below (Nat.le_refl _))
end Go.Proofs.Ytdodigfojbijfaa.Rw
