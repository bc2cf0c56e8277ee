/-
  The words of a formatted memory node: the program's formatted, the reference's Formatted.
-/
import Derived.Test.YtadeghfhjiohnaaLb
import Derived.Test.YtadeghfhjiohnaaWb
import Derived.Test.YtadeghfhjiohnaaNc
namespace Go.Proofs.Ytadeghfhjiohnaa.Le
open Go.ChangeShapes Go.WideShapes Go.ChangeAt Go.RowKit Ga Na Nb La Lb
set_option linter.unusedVariables false
set_option linter.unusedSimpArgs false
set_option maxRecDepth 10000
set_option maxHeartbeats 2000000

def dr : Nat → List Nat → List Nat
  | 0, l => l
  | k + 1, l => (dr k l).set (24 + k) 1
def pg : Nat → List Nat → List Nat
  | 0, l => l
  | k + 1, l => (pg k l).set (768 + 8 * k) 256
/-- The consensus word of view 0. -/
def civ (n : Nat) : Nat := 4504699138998272 + (ivs n).toNat
def base0 (L C : Nat) : List Nat := (((List.replicate (8 * L) 0).set 0 1).set 1 1).set 8 C
def fmtW (L C : Nat) : List Nat := pg (L - 96) (dr 6 (base0 L C))
theorem civ_ref (n : Nat) (h : 1 ≤ n ∧ n ≤ 5) : bits .or .u64 4504699138998272 (ivs n) = (civ n : Nat) := by
  have hk : n = 1 ∨ n = 2 ∨ n = 3 ∨ n = 4 ∨ n = 5 := by omega
  rcases hk with rfl | rfl | rfl | rfl | rfl <;> decide
theorem civ_own (n : Nat) (h : 1 ≤ n ∧ n ≤ 5) : Wb.consE 1 1 (ivs n) = 0 ∧ Wb.consV 1 1 (ivs n) = (civ n : Nat) ∧ 0 ≤ ivs n := by
  have hk : n = 1 ∨ n = 2 ∨ n = 3 ∨ n = 4 ∨ n = 5 := by omega
  rcases hk with rfl | rfl | rfl | rfl | rfl <;> decide
theorem civ_lt (n : Nat) (h : 1 ≤ n ∧ n ≤ 5) : civ n < 18446744073709551616 := by
  have hk : n = 1 ∨ n = 2 ∨ n = 3 ∨ n = 4 ∨ n = 5 := by omega
  rcases hk with rfl | rfl | rfl | rfl | rfl <;> decide
theorem Row.ok {w : World} {g n cap : Nat} {ws : List Nat} (h : Row w g n cap ws) {j : Nat} (hj : j < n) : (∃ v, w.cell? ⟨g, j, none⟩ = some v) ∧ w.frozen? ⟨g, j, none⟩ = false := ⟨⟨_, h.cell hj⟩, h.free j⟩

/-- A row of words under construction. -/
structure Fr (w w1 : World) (g N : Nat) (ws : List Nat) : Prop where
  row : Row w1 g N N ws
  below : Below w.heap.size w w1
  low : w.heap.size ≤ g
theorem Fr.set {w w1 : World} {g N : Nat} {ws : List Nat} (h : Fr w w1 g N ws) (j x : Nat) (hx : x < 18446744073709551616) : Fr w (w1.setCell ⟨g, j, none⟩ (.int .u64 (x : Int))) g N (ws.set j x) :=
  ⟨h.row.set j x hx, h.below.setCell (p := ⟨g, j, none⟩) h.low _, h.low⟩
theorem Fr.on {w w1 w2 : World} {g N : Nat} {ws : List Nat} (h : Fr w w1 g N ws) (hb : Below w1.heap.size w1 w2) : Fr w w2 g N ws :=
  ⟨h.row.keep (hb.block g h.row.size), h.below.trans (hb.mono h.below.size), h.low⟩
theorem formatted_any (L n : Nat) (w : World) (hL : 98 ≤ L ∧ L ≤ 256) (hn : 1 ≤ n ∧ n ≤ 5) :
    Calls Try.prog 54 #[.int .i64 L, .int .u64 (ivs n)] w fun e w' => ∃ g, e = .returned (.slice (some ⟨g, 0, none⟩) (8 * L) (8 * L)) ∧ Lk (w.heap.size ≤ g) ∧ Lk (Row w' g (8 * L) (8 * L) (fmtW L (civ n))) ∧ Lk (Below w.heap.size w w') := by
  obtain ⟨i0, hi, hz0, hz1, hz2⟩ := info_parts u64info
  have CW := words_any L w
  have hN : wordsN L = ((8 * L : Nat) : Int) := by unfold wordsN; rw [if_pos (by omega)]; omega
  rw [hN] at CW
  obtain ⟨N, hNN⟩ : ∃ N, 8 * L = N := ⟨_, rfl⟩
  have HN := Lk.mk hNN
  have hNb : 784 ≤ N ∧ N ≤ 2048 := by omega
  rw [hNN] at CW
  clear hN
  go_enter Try.func54, Try.ntmps54
  go_wp2_with (first
    | (go_at_call 29; refine CW.mono ?_; rintro e w' ⟨rfl, rfl⟩)
    | (at_make; refine wpList_make_full _ rfl _ _ 36 rfl w.heap.size 23 i0 (.int .u64 0) 1 Try.underlying36 hi hz0 hz1 .i64 .i64 _ _ N rfl rfl rfl rfl ?b2 ?b3 (Nat.le_refl _) ?_))
  case b2 => rw [hz2]; omega
  case b3 => unfold maxLen; omega
  intro w1 hown hgrow
  obtain ⟨g, hg⟩ : ∃ g, w.heap.size = g := ⟨_, rfl⟩
  have HF : Lk (Fr w w1 w.heap.size N (List.replicate N 0)) := ⟨Row.made (by simpa [Value.cells] using hown), (Below.refl _ w).grown hgrow (Nat.le_refl _) (fun k hk => by cases hk), Nat.le_refl _⟩
  have HZ := Lk.mk (show w.heap.size ≤ g from by omega)
  rw [hg] at HF
  simp only [hg]
  have HB0 := Lk.mk hg
  clear hown hgrow CW hi hz0 hz1 hz2 hNN hg
  go_upto_region 2 with fail
  have hc := HF.out.row.cell (j := 0) (by omega)
  have hf := HF.out.row.free 0
  have CK := Wb.key_any 0 true w1
  rw [show Wb.keyV 0 true = 1 by decide, show Wb.keyE 0 = 0 by decide] at CK
  have HF1 := Lk.mk (HF.out.set 0 1 (by decide))
  go_upto_region 3 with (first | (go_at_call 62; refine CK.mono ?_; rintro e w' ⟨rfl, rfl⟩))
  clear hc hf CK HF
  have E1 : w1.setCell ⟨g, 0, none⟩ (.int .u64 ((1 : Nat) : Int)) = w1.setCell ⟨g, 0, none⟩ (.int .u64 1) := rfl
  rw [E1] at HF1
  generalize w1.setCell _ _ = w2 at *
  have hc := HF1.out.row.cell (j := 1) (by omega)
  have hf := HF1.out.row.free 1
  have HF2 := Lk.mk (HF1.out.set 1 1 (by decide))
  go_upto_region 4 with fail
  clear hc hf HF1 E1
  have E1 : w2.setCell ⟨g, 1, none⟩ (.int .u64 ((1 : Nat) : Int)) = w2.setCell ⟨g, 1, none⟩ (.int .u64 1) := rfl
  rw [E1] at HF2
  generalize w2.setCell _ _ = w3 at *
  clear E1
  obtain ⟨e1, e2, e3⟩ := civ_own n hn
  have CC := fun W => Wb.cons_any 1 1 (ivs n) W (by decide) (by decide) e3
  rw [e1, e2] at CC
  clear e1 e2 e3
  have hlt := civ_lt n hn
  obtain ⟨C, hC⟩ : ∃ C, civ n = C := ⟨_, rfl⟩
  rw [hC] at CC hlt
  have HC := Lk.mk hC
  clear hC
  go_upto_region 5 with (first
    | (go_at_call 17; refine (consensus_any _ _).mono ?_; rw [show adr 8 1 0 15 0 = 8 by decide]; rintro e w4 ⟨rfl, H4⟩; have HF3 := Lk.mk (HF2.out.on H4.out); have hc := HF3.out.row.cell (j := 8) (by omega); have hf := HF3.out.row.free 8)
    | (go_at_call 63; refine (CC _).mono ?_; rintro e w' ⟨rfl, rfl⟩))
  have H0 := Lk.mk (show Fr w (w4.setCell ⟨g, 8, none⟩ (.int .u64 (C : Int))) g N (dr 0 ((((List.replicate N 0).set 0 1).set 1 1).set 8 C)) from HF3.out.set 8 C hlt)
  have HBase := Lk.mk (show (((List.replicate N 0).set 0 1).set 1 1).set 8 C = base0 L C from by rw [← HN.out]; rfl)
  rw [HBase.out] at H0
  clear hc hf HF3 H4 HF2 CC HBase
  generalize w4.setCell _ _ = w5 at *
  have hL2 : (L : Int) ≤ 256 := by omega
  go_wp2_with fail
  go_loopw [27] (fun s27 wr => ∃ k : Nat, k ≤ 6 ∧ s27 = .int .i64 k ∧ Lk (Fr w wr g N (dr k (base0 L C)))) (fun i _ => 6 - (intOf i).toNat)
  case atStart => exact ⟨0, by omega, rfl, H0⟩
  case round =>
    clear H0
    obtain ⟨k, hk, rfl, HF⟩ := hrel
    by_cases hlk : k < 6
    · have hki : (k : Int) < 6 := by omega
      have hA := Lk.mk (show adr 24 1 0 5 (k : Int) = ((24 + k : Nat) : Int) from by rw [adr_yes (by omega)]; omega)
      go_wp2_with (first
        | (go_at_call 11; refine (door_any _ _).mono ?_; rw [hA.out]; rintro e w6 ⟨rfl, H6⟩; have HF3 := Lk.mk (HF.out.on H6.out); have hc := HF3.out.row.cell (j := 24 + k) (by omega); have hf := HF3.out.row.free (24 + k); have HF4 := Lk.mk (show Fr w (w6.setCell ⟨g, 24 + k, none⟩ (.int .u64 1)) g N (dr (k + 1) (base0 L C)) from HF3.out.set (24 + k) 1 (by decide))))
      go_roundw
      case rel => exact ⟨k + 1, by omega, by go_num, HF4⟩
      case measure => simp [intOf]; omega
    · obtain rfl : k = 6 := by omega
      have H0 := Lk.mk (show Fr w wr g N (pg 0 (dr 6 (base0 L C))) from HF.out)
      clear HF
      go_wp2_with fail
      go_loopw [7] (fun s7 wr => ∃ k : Nat, k ≤ L - 96 ∧ s7 = .int .i64 (96 + (k : Int)) ∧ Lk (Fr w wr g N (pg k (dr 6 (base0 L C))))) (fun i _ => L - (intOf i).toNat)
      case atStart => exact ⟨0, by omega, rfl, H0⟩
      case round =>
        clear H0
        obtain ⟨k, hk, rfl, HF⟩ := hrel
        by_cases hlk : k < L - 96
        · have hki : 96 + (k : Int) < L := by omega
          have hA := Lk.mk (show adr 768 8 96 255 (96 + (k : Int)) = ((768 + 8 * k : Nat) : Int) from by rw [adr_yes (by omega)]; omega)
          have hb : 768 + 8 * k < N := by have := HN.out; omega
          have CH := fun W => Wb.header_any 1 0 W (by decide)
          rw [show Wb.headerV 1 0 = 256 by decide, show Wb.headerE 1 0 = 0 by decide] at CH
          go_wp2_with (first
            | (go_at_call 25; refine (page_any _ _).mono ?_; rw [hA.out]; rintro e w6 ⟨rfl, H6⟩; have HF3 := Lk.mk (HF.out.on H6.out); have hc := HF3.out.row.cell (j := 768 + 8 * k) hb; have hf := HF3.out.row.free (768 + 8 * k); have HF4 := Lk.mk (show Fr w (w6.setCell ⟨g, 768 + 8 * k, none⟩ (.int .u64 256)) g N (pg (k + 1) (dr 6 (base0 L C))) from HF3.out.set (768 + 8 * k) 256 (by decide)))
            | (go_at_call 64; refine (CH _).mono ?_; rintro e w' ⟨rfl, rfl⟩))
          go_roundw
          case rel => first | exact ⟨k + 1, by omega, by first | go_num | (congr 1; omega), HF4⟩ | ((repeat apply Exists.intro); exact ⟨⟨k + 1, by omega, by first | go_num | (congr 1; omega), HF4⟩, rfl⟩)
          case measure => simp [intOf]; omega
        · obtain rfl : k = L - 96 := by omega
          have HF5 := Lk.mk (show Fr w wr g N (fmtW L C) from HF.out)
          have hki : ¬ 96 + ((L - 96 : Nat) : Int) < L := by omega
          clear HF
          go_wp2
          go_ret
          rw [HN.out, HC.out]
          exact ⟨g, rfl, HZ, ⟨HF5.out.row⟩, ⟨HF5.out.below⟩⟩
theorem refFormatted_any (L n : Nat) (w : World) (hL : 98 ≤ L ∧ L ≤ 256) (hn : 1 ≤ n ∧ n ≤ 5) :
    Calls Try.prog 37 #[.int .i64 n, .int .i64 L] w fun e w' => ∃ g, e = .returned (.slice (some ⟨g, 0, none⟩) (8 * L) (8 * L)) ∧ Lk (w.heap.size ≤ g) ∧ Lk (Row w' g (8 * L) (8 * L) (fmtW L (civ n))) ∧ Lk (Below w.heap.size w w') := by
  obtain ⟨i0, hi, hz0, hz1, hz2⟩ := info_parts u64info
  obtain ⟨N, hNN⟩ : ∃ N, 8 * L = N := ⟨_, rfl⟩
  have HN := Lk.mk hNN
  have hNb : 784 ≤ N ∧ N ≤ 2048 := by omega
  have hm : (L : Int) * 8 = N := by omega
  go_enter Try.func37, Try.ntmps37
  go_wp2_with (first
    | (at_make; refine wpList_make_full _ rfl _ _ 36 rfl w.heap.size 23 i0 (.int .u64 0) 1 Try.underlying36 hi hz0 hz1 .i64 .i64 _ _ N rfl rfl (by first | rfl | exact hm) (by first | rfl | exact hm) ?b2 ?b3 (Nat.le_refl _) ?_))
  case b2 => rw [hz2]; omega
  case b3 => unfold maxLen; omega
  intro w1 hown hgrow
  obtain ⟨g, hg⟩ : ∃ g, w.heap.size = g := ⟨_, rfl⟩
  have HF : Lk (Fr w w1 w.heap.size N (List.replicate N 0)) := ⟨Row.made (by simpa [Value.cells] using hown), (Below.refl _ w).grown hgrow (Nat.le_refl _) (fun k hk => by cases hk), Nat.le_refl _⟩
  have HZ := Lk.mk (show w.heap.size ≤ g from by omega)
  rw [hg] at HF
  simp only [hg]
  have HB0 := Lk.mk hg
  clear hown hgrow hi hz0 hz1 hz2 hNN hg hm
  go_upto_region 2 with fail
  have hc := HF.out.row.cell (j := 0) (by omega)
  have hf := HF.out.row.free 0
  have hc1 := HF.out.row.cell (j := 1) (by omega)
  have hf1 := HF.out.row.free 1
  have HF2 := Lk.mk (show Fr w ((w1.setCell ⟨g, 0, none⟩ (.int .u64 1)).setCell ⟨g, 1, none⟩ (.int .u64 1)) g N (((List.replicate N 0).set 0 1).set 1 1) from (HF.out.set 0 1 (by decide)).set 1 1 (by decide))
  go_upto_region 3 with fail
  clear hc hf hc1 hf1 HF
  generalize (w1.setCell ⟨g, 0, none⟩ (.int .u64 1)).setCell _ _ = w4 at *
  have CI := refIv_ok n w4 hn
  have e1 := civ_ref n hn
  have hlt := civ_lt n hn
  obtain ⟨C, hC⟩ : ∃ C, civ n = C := ⟨_, rfl⟩
  rw [hC] at e1 hlt
  have HC := Lk.mk hC
  clear hC
  have CC := refConsensusAt_any 0 w4
  rw [show adr 8 1 0 15 0 = 8 by decide] at CC
  have hc := HF2.out.row.cell (j := 8) (by omega)
  have hf := HF2.out.row.free 8
  have HF3 := Lk.mk (show Fr w (w4.setCell ⟨g, 8, none⟩ (.int .u64 (C : Int))) g N (dr 0 ((((List.replicate N 0).set 0 1).set 1 1).set 8 C)) from HF2.out.set 8 C hlt)
  go_upto_region 5 with (first
    | (go_at_call 9; refine CI.mono ?_; rintro e w' ⟨rfl, rfl⟩)
    | (go_at_call 18; refine CC.mono ?_; rintro e w' ⟨rfl, rfl⟩))
  have HBase := Lk.mk (show (((List.replicate N 0).set 0 1).set 1 1).set 8 C = base0 L C from by rw [← HN.out]; rfl)
  have H0 := HF3
  rw [HBase.out] at H0
  clear hc hf HF3 HF2 CC CI HBase e1
  generalize w4.setCell _ _ = w5 at *
  have hL2 : (L : Int) ≤ 256 := by omega
  go_wp2_with fail
  go_loopw [8] (fun s27 wr => ∃ k : Nat, k ≤ 6 ∧ s27 = .int .i64 k ∧ Lk (Fr w wr g N (dr k (base0 L C)))) (fun i _ => 6 - (intOf i).toNat)
  case atStart => exact ⟨0, by omega, rfl, H0⟩
  case round =>
    clear H0
    obtain ⟨k, hk, rfl, HF⟩ := hrel
    by_cases hlk : k < 6
    · have hki : (k : Int) < 6 := by omega
      have hA := Lk.mk (show adr 24 1 0 5 (k : Int) = ((24 + k : Nat) : Int) from by rw [adr_yes (by omega)]; omega)
      go_wp2_with (first
        | (go_at_call 12; refine (refDoor_any _ _).mono ?_; rw [hA.out]; rintro e w6 ⟨rfl, rfl⟩; have HF3 := HF; have hc := HF3.out.row.cell (j := 24 + k) (by omega); have hf := HF3.out.row.free (24 + k); have HF4 := Lk.mk (show Fr w (wr.setCell ⟨g, 24 + k, none⟩ (.int .u64 1)) g N (dr (k + 1) (base0 L C)) from HF3.out.set (24 + k) 1 (by decide))))
      go_roundw
      case rel => exact ⟨k + 1, by omega, by go_num, HF4⟩
      case measure => simp [intOf]; omega
    · obtain rfl : k = 6 := by omega
      have H0 := Lk.mk (show Fr w wr g N (pg 0 (dr 6 (base0 L C))) from HF.out)
      clear HF
      go_wp2_with fail
      go_loopw [9] (fun s7 wr => ∃ k : Nat, k ≤ L - 96 ∧ s7 = .int .i64 (96 + (k : Int)) ∧ Lk (Fr w wr g N (pg k (dr 6 (base0 L C))))) (fun i _ => L - (intOf i).toNat)
      case atStart => exact ⟨0, by omega, rfl, H0⟩
      case round =>
        clear H0
        obtain ⟨k, hk, rfl, HF⟩ := hrel
        by_cases hlk : k < L - 96
        · have hki : 96 + (k : Int) < L := by omega
          have hA := Lk.mk (show adr 768 8 96 255 (96 + (k : Int)) = ((768 + 8 * k : Nat) : Int) from by rw [adr_yes (by omega)]; omega)
          have hb : 768 + 8 * k < N := by have := HN.out; omega
          have hc := HF.out.row.cell (j := 768 + 8 * k) hb
          have hf := HF.out.row.free (768 + 8 * k)
          have HF4 := Lk.mk (show Fr w (wr.setCell ⟨g, 768 + 8 * k, none⟩ (.int .u64 256)) g N (pg (k + 1) (dr 6 (base0 L C))) from HF.out.set (768 + 8 * k) 256 (by decide))
          have hA2 : (96 + (k : Int)) * 8 = ((768 + 8 * k : Nat) : Int) := by omega
          clear hA
          go_wp2
          go_roundw
          case rel => first | exact ⟨k + 1, by omega, by first | go_num | (congr 1; omega), HF4⟩ | ((repeat apply Exists.intro); exact ⟨⟨k + 1, by omega, by first | go_num | (congr 1; omega), HF4⟩, rfl⟩)
          case measure => simp [intOf]; omega
        · obtain rfl : k = L - 96 := by omega
          have HF5 := Lk.mk (show Fr w wr g N (fmtW L C) from HF.out)
          have hki : ¬ 96 + ((L - 96 : Nat) : Int) < L := by omega
          clear HF
          go_wp2
          go_ret
          rw [HN.out, HC.out]
          exact ⟨g, rfl, HZ, ⟨HF5.out.row⟩, ⟨HF5.out.below⟩⟩
end Go.Proofs.Ytadeghfhjiohnaa.Le
