/-
  A fabric in memory: what it tells of itself; New that refuses.
-/
import Derived.Test.YtadeghfhjiohnaaFc
namespace Go.Proofs.Ytadeghfhjiohnaa.Fd_
open Go.ChangeShapes Go.WideShapes Go.ChangeAt Go.RowKit Ga Gb Na Nb Va Qb Qd Ta Tc Th Fa Fb Fc
set_option linter.unusedVariables false
set_option linter.unusedSimpArgs false
set_option maxHeartbeats 1000000
set_option maxRecDepth 100000
section
variable (fb : Nat) (L : Int) (NA CA : Option Addr) (n nc m mc : Nat) (OV : Value) (w : World)
theorem nodes_any (h : Lk (w.heap[fb]? = some (fbc L (.slice NA n nc) (.slice CA m mc) OV))) : Calls Try.prog 58 #[.pointer (some ⟨fb, 0, none⟩)] w fun e w' => e = .returned (.int .i64 n) ∧ w = w' := by
  have y := (cell_of_row w fb 1 _ _ _ h.out).trans rfl
  go_enter Try.func58, Try.ntmps58
  go_wp2; go_ret; exact ⟨rfl, rfl⟩
theorem node_no (i : Int) (h : Lk (w.heap[fb]? = some (fbc L (.slice NA n nc) (.slice CA m mc) OV))) (hn : n ≤ 4294967296) (hi : i < 0 ∨ n ≤ i) : Calls Try.prog 40 #[.pointer (some ⟨fb, 0, none⟩), .int .i64 i] w fun e w' => e = .returned (.pointer none) ∧ w = w' := by
  have y := (cell_of_row w fb 1 _ _ _ h.out).trans rfl
  have C := within_f i 0 ((n : Int) - 1) w
  rw [decide_eq_false (show ¬ (0 ≤ i ∧ i ≤ (n : Int) - 1) by omega)] at C
  go_enter Try.func40, Try.ntmps40
  go_wp2_with (first | (go_at_call 56; refine C.mono ?_; rintro e w' ⟨rfl, rfl⟩))
  go_ret; exact ⟨rfl, rfl⟩
theorem node_at (nv b i : Nat) (h : Lk (w.heap[fb]? = some (fbc L (.slice (some ⟨nv, 0, none⟩) n nc) (.slice CA m mc) OV))) (hn : n ≤ 4294967296) (hi : i < n) (hc : Lk (w.cell? ⟨nv, i, none⟩ = some (.pointer (some ⟨b, 0, none⟩)))) : Calls Try.prog 40 #[.pointer (some ⟨fb, 0, none⟩), .int .i64 i] w fun e w' => e = .returned (.pointer (some ⟨b, 0, none⟩)) ∧ w = w' := by
  have y := (cell_of_row w fb 1 _ _ _ h.out).trans rfl
  have C := within_f i 0 ((n : Int) - 1) w
  rw [decide_eq_true (show 0 ≤ (i : Int) ∧ (i : Int) ≤ (n : Int) - 1 by omega)] at C
  have hc' := hc.out
  have hi' : (i : Int) < n := by omega
  go_enter Try.func40, Try.ntmps40
  go_wp2_with (first | (go_at_call 56; refine C.mono ?_; rintro e w' ⟨rfl, rfl⟩))
  go_ret; exact ⟨rfl, rfl⟩
end
theorem newf_arg (n m L : Int) (w : World) (h : n < 1 ∨ 5 < n ∨ m < 1 ∨ 6 < m) :
    Calls Try.prog 39 #[.int .i64 n, .int .i64 m, .int .i64 L] w fun e w' => e = .returned (.tuple #[.pointer none, .int .i64 1]) ∧ w = w' := by
  have W1 := within_f n 1 5 w
  have W2 := within_f m 1 6 w
  by_cases hn : 1 ≤ n ∧ n ≤ 5
  · rw [decide_eq_true hn] at W1
    rw [decide_eq_false (show ¬ (1 ≤ m ∧ m ≤ 6) by omega)] at W2
    clear h hn
    go_enter Try.func39, Try.ntmps39
    go_wp2_with (first
      | (go_at_call 56; (with_reducible refine W1.mono ?_); rintro e w' ⟨rfl, rfl⟩)
      | (go_at_call 56; (with_reducible refine W2.mono ?_); rintro e w' ⟨rfl, rfl⟩))
    go_ret2; exact ⟨rfl, rfl⟩
  · rw [decide_eq_false hn] at W1
    clear h hn W2
    go_enter Try.func39, Try.ntmps39
    go_wp2_with (first
      | (go_at_call 56; (with_reducible refine W1.mono ?_); rintro e w' ⟨rfl, rfl⟩))
    go_ret2; exact ⟨rfl, rfl⟩
theorem newf_rng (n m L : Int) (w : World) (hn : 1 ≤ n ∧ n ≤ 5) (hm : 1 ≤ m ∧ m ≤ 6) (hL : L < 1 ∨ 256 < L) :
    Calls Try.prog 39 #[.int .i64 n, .int .i64 m, .int .i64 L] w fun e w' => e = .returned (.tuple #[.pointer none, .int .i64 2]) ∧ Lk (Below w.heap.size w w') := by
  have W1 := within_f n 1 5 w
  have W2 := within_f m 1 6 w
  rw [decide_eq_true hn] at W1
  rw [decide_eq_true hm] at W2
  have hn0 : 0 < n := by omega
  go_enter Try.func39, Try.ntmps39
  go_upto_region 3 with (first
    | (go_at_call 56; (with_reducible refine W1.mono ?_); rintro e w' ⟨rfl, rfl⟩)
    | (go_at_call 56; (with_reducible refine W2.mono ?_); rintro e w' ⟨rfl, rfl⟩))
  clear W1 W2
  go_upto_region 4 with fail
  have HB1 := Lk.mk ((Below.refl _ w).alloc (Nat.le_refl _) (.cells #[.int .i64 L, .slice none 0 0, .slice none 0 0, .slice none 0 0] 74))
  generalize w.alloc _ = w1 at *
  have CN := Nb.new_no L w1 hL
  go_wp2_with fail
  go_loopw [24] (fun s24 wr => s24 = .int .i64 0 ∧ wr = w1) (fun s24 _ => 0)
  case atStart => exact ⟨rfl, rfl⟩
  case round =>
    obtain ⟨rfl, rfl⟩ := hrel
    go_wp2_with (first
      | (go_at_call 31; refine CN.mono ?_; rintro e w2 ⟨rfl, rfl⟩))
    go_ret2
    exact ⟨rfl, HB1⟩
end Go.Proofs.Ytadeghfhjiohnaa.Fd_
