/-
  Contracts: the hand's Page.
-/
import Derived.Test.YtdodigfojbijfaaRl
namespace Go.Proofs.Ytdodigfojbijfaa.Rm
open Go.ChangeShapes Go.WideShapes Go.ChangeAt Go.RowKit Ga Gb Ra Rb Rc Rd Re Rf Rg Rh Ri Rj Rk Rl
set_option linter.unusedVariables false
set_option linter.unusedSimpArgs false
set_option maxRecDepth 10000
set_option maxHeartbeats 1000000

/-- The page that the hand makes of a number. -/
def hX (n : Int) : Nat := pk n 1048576
def hpg (n L : Int) : Pg := ⟨96 + (pk n (L - 96) : Int), (pk (n.tdiv 64) 4 + 1) * 256, hX n * 3, hX n * 4, hX n * 5, hX n * 6, hX n * 7, hX n * 8, hX n * 9⟩
theorem hpg_wf (n L : Int) (hL : 97 ≤ L ∧ L ≤ 256) : (hpg n L).Wf := by
  have h1 := pk_lt n 1048576 (by decide)
  have h2 := pk_lt (n.tdiv 64) 4 (by decide)
  have h3 := pk_lt n (L - 96) (by omega)
  unfold hpg hX
  constructor <;> simp only <;> omega
def pageK (ln hd x : Int) : Nat → Array Value
  | 0 => #[.int .i64 ln, .int .u64 hd, .int .u64 0, .int .u64 0, .int .u64 0, .int .u64 0, .int .u64 0, .int .u64 0, .int .u64 0]
  | k + 1 => (pageK ln hd x k).setIfInBounds (2 + k) (.int .u64 (x * (k + 3)))
theorem pageK_size (ln hd x : Int) (k : Nat) : (pageK ln hd x k).size = 9 := by
  induction k with
  | zero => rfl
  | succ k ih => rw [pageK, Array.size_setIfInBounds, ih]
theorem pageK_all (ln hd x : Int) : pageK ln hd x 7 = #[.int .i64 ln, .int .u64 hd, .int .u64 (x * 3), .int .u64 (x * 4), .int .u64 (x * 5), .int .u64 (x * 6), .int .u64 (x * 7), .int .u64 (x * 8), .int .u64 (x * 9)] := rfl
/-- Page's two blocks. -/
structure Hp (w wr : World) (ln hd x : Int) (k : Nat) : Prop where
  z : wr.heap[w.heap.size]? = some (.cells #[.int .i64 0, .int .u64 0, .int .u64 0, .int .u64 0, .int .u64 0, .int .u64 0, .int .u64 0, .int .u64 0, .int .u64 0] 31 (0, 0))
  p : wr.heap[w.heap.size + 1]? = some (.cells (pageK ln hd x k) 31 (0, 0))
  below : Below w.heap.size w wr
theorem Hp.start (w : World) (ln hd x : Int) : Hp w ((w.alloc (.cells #[.int .i64 0, .int .u64 0, .int .u64 0, .int .u64 0, .int .u64 0, .int .u64 0, .int .u64 0, .int .u64 0, .int .u64 0] 31)).alloc (.cells #[.int .i64 ln, .int .u64 hd, .int .u64 0, .int .u64 0, .int .u64 0, .int .u64 0, .int .u64 0, .int .u64 0, .int .u64 0] 31)) ln hd x 0 :=
  ⟨(Below.heap_alloc _ _ _ (by simp)).trans (heap_alloc_new w _), by
    have := heap_alloc_new (w.alloc (.cells #[.int .i64 0, .int .u64 0, .int .u64 0, .int .u64 0, .int .u64 0, .int .u64 0, .int .u64 0, .int .u64 0, .int .u64 0] 31)) (.cells #[.int .i64 ln, .int .u64 hd, .int .u64 0, .int .u64 0, .int .u64 0, .int .u64 0, .int .u64 0, .int .u64 0, .int .u64 0] 31)
    rw [show pageK ln hd x 0 = #[.int .i64 ln, .int .u64 hd, .int .u64 0, .int .u64 0, .int .u64 0, .int .u64 0, .int .u64 0, .int .u64 0, .int .u64 0] from rfl]
    simpa using this, two_alloc _ _ _⟩
section
variable {W w : World} {g B : Nat} {T : TypeId} {x0 x1 x2 x3 x4 x5 x6 x7 x8 : Value} {y0 y1 y2 y3 y4 y5 y6 y7 y8 : Value}
theorem nine_set (hz : W.heap[g]? = some (.cells #[x0, x1, x2, x3, x4, x5, x6, x7, x8] T (0, 0))) : (((((((((W.setCell ⟨g, 0, none⟩ y0).setCell ⟨g, 1, none⟩ y1).setCell ⟨g, 2, none⟩ y2).setCell ⟨g, 3, none⟩ y3).setCell ⟨g, 4, none⟩ y4).setCell ⟨g, 5, none⟩ y5).setCell ⟨g, 6, none⟩ y6).setCell ⟨g, 7, none⟩ y7).setCell ⟨g, 8, none⟩ y8).heap[g]? = some (.cells #[y0, y1, y2, y3, y4, y5, y6, y7, y8] T (0, 0)) := by
  have h1 : (W.setCell ⟨g, 0, none⟩ y0).heap[g]? = some (.cells #[y0, x1, x2, x3, x4, x5, x6, x7, x8] T (0, 0)) := heap_setCell_same _ g 0 _ _ _ hz
  have h2 : ((W.setCell ⟨g, 0, none⟩ y0).setCell ⟨g, 1, none⟩ y1).heap[g]? = some (.cells #[y0, y1, x2, x3, x4, x5, x6, x7, x8] T (0, 0)) := heap_setCell_same _ g 1 _ _ _ h1
  have h3 : (((W.setCell ⟨g, 0, none⟩ y0).setCell ⟨g, 1, none⟩ y1).setCell ⟨g, 2, none⟩ y2).heap[g]? = some (.cells #[y0, y1, y2, x3, x4, x5, x6, x7, x8] T (0, 0)) := heap_setCell_same _ g 2 _ _ _ h2
  have h4 : ((((W.setCell ⟨g, 0, none⟩ y0).setCell ⟨g, 1, none⟩ y1).setCell ⟨g, 2, none⟩ y2).setCell ⟨g, 3, none⟩ y3).heap[g]? = some (.cells #[y0, y1, y2, y3, x4, x5, x6, x7, x8] T (0, 0)) := heap_setCell_same _ g 3 _ _ _ h3
  have h5 : (((((W.setCell ⟨g, 0, none⟩ y0).setCell ⟨g, 1, none⟩ y1).setCell ⟨g, 2, none⟩ y2).setCell ⟨g, 3, none⟩ y3).setCell ⟨g, 4, none⟩ y4).heap[g]? = some (.cells #[y0, y1, y2, y3, y4, x5, x6, x7, x8] T (0, 0)) := heap_setCell_same _ g 4 _ _ _ h4
  have h6 : ((((((W.setCell ⟨g, 0, none⟩ y0).setCell ⟨g, 1, none⟩ y1).setCell ⟨g, 2, none⟩ y2).setCell ⟨g, 3, none⟩ y3).setCell ⟨g, 4, none⟩ y4).setCell ⟨g, 5, none⟩ y5).heap[g]? = some (.cells #[y0, y1, y2, y3, y4, y5, x6, x7, x8] T (0, 0)) := heap_setCell_same _ g 5 _ _ _ h5
  have h7 : (((((((W.setCell ⟨g, 0, none⟩ y0).setCell ⟨g, 1, none⟩ y1).setCell ⟨g, 2, none⟩ y2).setCell ⟨g, 3, none⟩ y3).setCell ⟨g, 4, none⟩ y4).setCell ⟨g, 5, none⟩ y5).setCell ⟨g, 6, none⟩ y6).heap[g]? = some (.cells #[y0, y1, y2, y3, y4, y5, y6, x7, x8] T (0, 0)) := heap_setCell_same _ g 6 _ _ _ h6
  have h8 : ((((((((W.setCell ⟨g, 0, none⟩ y0).setCell ⟨g, 1, none⟩ y1).setCell ⟨g, 2, none⟩ y2).setCell ⟨g, 3, none⟩ y3).setCell ⟨g, 4, none⟩ y4).setCell ⟨g, 5, none⟩ y5).setCell ⟨g, 6, none⟩ y6).setCell ⟨g, 7, none⟩ y7).heap[g]? = some (.cells #[y0, y1, y2, y3, y4, y5, y6, y7, x8] T (0, 0)) := heap_setCell_same _ g 7 _ _ _ h7
  have h9 : (((((((((W.setCell ⟨g, 0, none⟩ y0).setCell ⟨g, 1, none⟩ y1).setCell ⟨g, 2, none⟩ y2).setCell ⟨g, 3, none⟩ y3).setCell ⟨g, 4, none⟩ y4).setCell ⟨g, 5, none⟩ y5).setCell ⟨g, 6, none⟩ y6).setCell ⟨g, 7, none⟩ y7).setCell ⟨g, 8, none⟩ y8).heap[g]? = some (.cells #[y0, y1, y2, y3, y4, y5, y6, y7, y8] T (0, 0)) := heap_setCell_same _ g 8 _ _ _ h8
  exact h9
theorem nine_below (h : Below B w W) (hg : B ≤ g) : Below B w (((((((((W.setCell ⟨g, 0, none⟩ y0).setCell ⟨g, 1, none⟩ y1).setCell ⟨g, 2, none⟩ y2).setCell ⟨g, 3, none⟩ y3).setCell ⟨g, 4, none⟩ y4).setCell ⟨g, 5, none⟩ y5).setCell ⟨g, 6, none⟩ y6).setCell ⟨g, 7, none⟩ y7).setCell ⟨g, 8, none⟩ y8) :=
  (((((((((h.setCell (p := ⟨g, 0, none⟩) hg y0).setCell (p := ⟨g, 1, none⟩) hg y1).setCell (p := ⟨g, 2, none⟩) hg y2).setCell (p := ⟨g, 3, none⟩) hg y3).setCell (p := ⟨g, 4, none⟩) hg y4).setCell (p := ⟨g, 5, none⟩) hg y5).setCell (p := ⟨g, 6, none⟩) hg y6).setCell (p := ⟨g, 7, none⟩) hg y7).setCell (p := ⟨g, 8, none⟩) hg y8)
theorem nine_cells (h : W.heap[g]? = some (.cells #[x0, x1, x2, x3, x4, x5, x6, x7, x8] T (0, 0))) : W.cell? ⟨g, 0, none⟩ = some x0 ∧ W.cell? ⟨g, 1, none⟩ = some x1 ∧ W.cell? ⟨g, 2, none⟩ = some x2 ∧ W.cell? ⟨g, 3, none⟩ = some x3 ∧ W.cell? ⟨g, 4, none⟩ = some x4 ∧ W.cell? ⟨g, 5, none⟩ = some x5 ∧ W.cell? ⟨g, 6, none⟩ = some x6 ∧ W.cell? ⟨g, 7, none⟩ = some x7 ∧ W.cell? ⟨g, 8, none⟩ = some x8 :=
  ⟨(cell_of_row W g 0 _ _ _ h).trans rfl, (cell_of_row W g 1 _ _ _ h).trans rfl, (cell_of_row W g 2 _ _ _ h).trans rfl, (cell_of_row W g 3 _ _ _ h).trans rfl, (cell_of_row W g 4 _ _ _ h).trans rfl, (cell_of_row W g 5 _ _ _ h).trans rfl, (cell_of_row W g 6 _ _ _ h).trans rfl, (cell_of_row W g 7 _ _ _ h).trans rfl, (cell_of_row W g 8 _ _ _ h).trans rfl⟩
theorem nine_free (h : W.heap[g]? = some (.cells #[x0, x1, x2, x3, x4, x5, x6, x7, x8] T (0, 0))) : W.frozen? ⟨g, 0, none⟩ = false ∧ W.frozen? ⟨g, 1, none⟩ = false ∧ W.frozen? ⟨g, 2, none⟩ = false ∧ W.frozen? ⟨g, 3, none⟩ = false ∧ W.frozen? ⟨g, 4, none⟩ = false ∧ W.frozen? ⟨g, 5, none⟩ = false ∧ W.frozen? ⟨g, 6, none⟩ = false ∧ W.frozen? ⟨g, 7, none⟩ = false ∧ W.frozen? ⟨g, 8, none⟩ = false :=
  ⟨frozen_of_row W g 0 _ _ h, frozen_of_row W g 1 _ _ h, frozen_of_row W g 2 _ _ h, frozen_of_row W g 3 _ _ h, frozen_of_row W g 4 _ _ h, frozen_of_row W g 5 _ _ h, frozen_of_row W g 6 _ _ h, frozen_of_row W g 7 _ _ h, frozen_of_row W g 8 _ _ h⟩
end
theorem tdiv_rng (n : Int) (n0 : -9223372036854775808 ≤ n) (n1 : n ≤ 9223372036854775807) : -9223372036854775808 ≤ n.tdiv 64 ∧ n.tdiv 64 ≤ 9223372036854775807 := by
  rcases Int.le_total 0 n with h | h
  · rw [Int.tdiv_eq_ediv_of_nonneg h]; omega
  · have h2 := Int.neg_tdiv n 64
    rw [Int.tdiv_eq_ediv_of_nonneg (show 0 ≤ -n by omega)] at h2
    omega
theorem page_any (n L : Int) (w : World) (hL : 97 ≤ L ∧ L ≤ 256) (n0 : -9223372036854775808 ≤ n) (n1 : n ≤ 9223372036854775807) :
    Calls Try.prog 29 #[.int .i64 n, .int .i64 L] w fun e w' => e = .returned (hpg n L).val ∧ Lk (Below w.heap.size w w') := by
  have C1 := Lk.mk (fun w => pick_any n (L - 96) w (by omega) (by omega) n0 n1)
  have hq := tdiv_rng n n0 n1
  have C2 := Lk.mk (fun w => pick_any (n.tdiv 64) 4 w (by decide) (by decide) hq.1 hq.2)
  have C3 := Lk.mk (fun w => pick_any n 1048576 w (by decide) (by decide) n0 n1)
  have h1 := pk_lt n (L - 96) (by omega)
  have h2 := pk_lt (n.tdiv 64) 4 (by decide)
  have h3 := pk_lt n 1048576 (by decide)
  have HV := Lk.mk (show (hpg n L).val = .agg #[.int .i64 (96 + (pk n (L - 96) : Int)), .int .u64 ((((pk (n.tdiv 64) 4 + 1) * 256 : Nat)) : Int), .int .u64 (((hX n * 3 : Nat)) : Int), .int .u64 (((hX n * 4 : Nat)) : Int), .int .u64 (((hX n * 5 : Nat)) : Int), .int .u64 (((hX n * 6 : Nat)) : Int), .int .u64 (((hX n * 7 : Nat)) : Int), .int .u64 (((hX n * 8 : Nat)) : Int), .int .u64 (((hX n * 9 : Nat)) : Int)] from rfl)
  unfold hX at HV
  generalize pk n (L - 96) = a at *
  generalize pk (n.tdiv 64) 4 = b at *
  generalize pk n 1048576 = x at *
  go_enter Try.func29, Try.ntmps29
  go_wp2_with (first
    | (go_at_call 10; with_reducible refine (C1.out _).mono ?_; rintro e w' ⟨rfl, rfl⟩)
    | (go_at_call 10; with_reducible refine (C2.out _).mono ?_; rintro e w' ⟨rfl, rfl⟩))
  have H0 := Lk.mk (Hp.start w (96 + (a : Int)) (((b : Int) + 1) * 256) (x : Int))
  clear C1 C2 hq
  go_loopw [6] (fun s6 wx => ∃ k : Nat, k ≤ 7 ∧ s6 = .int .i64 k ∧ Lk (Hp w wx (96 + (a : Int)) (((b : Int) + 1) * 256) (x : Int) k)) (fun i _ => 7 - (intOf i).toNat)
  case atStart => exact ⟨0, by omega, rfl, H0⟩
  case round =>
    clear H0
    obtain ⟨k, hk, rfl, HU⟩ := hrel
    by_cases h7 : k < 7
    · have hki : (k : Int) < 7 := by omega
      have hc : ∃ v, wr.cell? ⟨w.heap.size + 1, 2 + k, none⟩ = some v := ⟨_, (cell_of_row wr (w.heap.size + 1) (2 + k) _ _ _ HU.out.p).trans (Array.getElem?_eq_getElem (by rw [pageK_size]; omega))⟩
      obtain ⟨v, hc⟩ := hc
      have hf := frozen_of_row wr (w.heap.size + 1) (2 + k) _ _ HU.out.p
      have hm0 : (0 : Int) ≤ (x : Int) * ((k : Int) + 3) := Int.mul_nonneg (by omega) (by omega)
      have hm1 : (x : Int) * ((k : Int) + 3) ≤ 1048576 * 9 := Int.mul_le_mul (by omega) (by omega) (by omega) (by omega)
      have HU2 : Lk (Hp w (wr.setCell ⟨w.heap.size + 1, 2 + k, none⟩ (.int .u64 ((x : Int) * ((k : Int) + 3)))) (96 + (a : Int)) (((b : Int) + 1) * 256) (x : Int) (k + 1)) :=
        ⟨(Below.heap_setCell wr ⟨w.heap.size + 1, 2 + k, none⟩ _ w.heap.size (by show w.heap.size ≠ w.heap.size + 1; omega)).trans HU.out.z, heap_setCell_same wr (w.heap.size + 1) (2 + k) _ _ _ HU.out.p, HU.out.below.setCell (p := ⟨w.heap.size + 1, 2 + k, none⟩) (by show w.heap.size ≤ w.heap.size + 1; omega) _⟩
      clear HU
      go_wp2_with (first
        | (go_at_call 10; with_reducible refine (C3.out _).mono ?_; rintro e w' ⟨rfl, rfl⟩))
      go_roundw
      case rel => exact ⟨k + 1, by omega, by go_num, HU2⟩
      case measure => simp [intOf]; omega
    · obtain rfl : k = 7 := by omega
      obtain ⟨hz, hp, hb⟩ := HU.out
      rw [pageK_all] at hp
      obtain ⟨c0, c1, c2, c3, c4, c5, c6, c7, c8⟩ := nine_cells hp
      obtain ⟨z0, z1, z2, z3, z4, z5, z6, z7, z8⟩ := nine_cells hz
      obtain ⟨f0, f1, f2, f3, f4, f5, f6, f7, f8⟩ := nine_free hz
      have HZ := Lk.mk hz
      have HB := Lk.mk hb
      clear hz hp hb HU
      go_wp2
      refine bodyPost_ret (results_cell_row rfl _ _ w.heap.size 31 #[.int .i64 (96 + (a : Int)), .int .u64 (((b : Int) + 1) * 256), .int .u64 ((x : Int) * 3), .int .u64 ((x : Int) * 4), .int .u64 ((x : Int) * 5), .int .u64 ((x : Int) * 6), .int .u64 ((x : Int) * 7), .int .u64 ((x : Int) * 8), .int .u64 ((x : Int) * 9)] (0, 0) _ rfl (nine_set HZ.out) page_under rfl (by kernel_rfl)) rfl ?_
      rw [HV.out]
      exact ⟨by simp, ⟨nine_below HB.out (Nat.le_refl _)⟩⟩
end Go.Proofs.Ytdodigfojbijfaa.Rm
