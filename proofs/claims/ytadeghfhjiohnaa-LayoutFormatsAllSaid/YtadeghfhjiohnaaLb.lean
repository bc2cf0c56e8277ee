/-
  Contracts of package layout's InHeap, Words, InitialValue, and of the reference's numbers.
-/
import Derived.Test.YtadeghfhjiohnaaLa
namespace Go.Proofs.Ytadeghfhjiohnaa.Lb
open Go.ChangeShapes Go.WideShapes Go.ChangeAt Go.RowKit Ga La
set_option linter.unusedVariables false
set_option linter.unusedSimpArgs false
set_option maxRecDepth 10000

def heapB (line lines : Int) : Bool := decide ((98 ≤ lines ∧ lines ≤ 256) ∧ 96 ≤ line ∧ line ≤ lines - 1)
def wordsN (lines : Int) : Int := if 1 ≤ lines ∧ lines ≤ 256 then lines * 8 else 0
/-- The value of view 0 of k memory nodes. -/
def ivs : Nat → Int
  | 0 => 549755813888
  | 1 => 549755813895
  | 2 => 549755814791
  | 3 => 549755929479
  | 4 => 549770609543
  | _ => 551649657735
def ivV (n : Int) : Int := if 1 ≤ n ∧ n ≤ 5 then ivs n.toNat else 0
def ivE (n : Int) : Int := if 1 ≤ n ∧ n ≤ 5 then 0 else 2
theorem words_any (lines : Int) (w : World) : Calls Try.prog 29 #[.int .i64 lines] w fun e w' => e = .returned (.int .i64 (wordsN lines)) ∧ w = w' := by
  have W := within_l lines 1 256 w
  by_cases h : 1 ≤ lines ∧ lines ≤ 256
  · rw [decide_eq_true h] at W
    rw [wordsN, if_pos h]
    go_enter Try.func29, Try.ntmps29
    go_wp2_with (first | (go_at_call 43; refine W.mono ?_; rintro e w' ⟨rfl, rfl⟩))
    go_ret
    exact ⟨rfl, rfl⟩
  · rw [decide_eq_false h] at W
    rw [wordsN, if_neg h]
    go_enter Try.func29, Try.ntmps29
    go_wp2_with (first | (go_at_call 43; refine W.mono ?_; rintro e w' ⟨rfl, rfl⟩))
    go_ret
    exact ⟨rfl, rfl⟩
theorem inHeap_any (line lines : Int) (w : World) (hl : -9223372036854775808 ≤ lines ∧ lines ≤ 9223372036854775807) : Calls Try.prog 27 #[.int .i64 line, .int .i64 lines] w fun e w' => e = .returned (.bool (heapB line lines)) ∧ w = w' := by
  have W := within_l lines 98 256 w
  by_cases h : 98 ≤ lines ∧ lines ≤ 256
  · rw [decide_eq_true h] at W
    have W2 := within_l line 96 (lines - 1) w
    go_enter Try.func27, Try.ntmps27
    go_wp2_with (first | (go_at_call 43; (with_reducible refine W.mono ?_); rintro e w' ⟨rfl, rfl⟩) | (go_at_call 43; (with_reducible refine W2.mono ?_); rintro e w' ⟨rfl, rfl⟩))
    go_ret
    refine ⟨ret_bool ?_, rfl⟩
    rw [heapB, Bool.eq_iff_iff]; simp; omega
  · rw [decide_eq_false h] at W
    go_enter Try.func27, Try.ntmps27
    go_wp2_with (first | (go_at_call 43; (with_reducible refine W.mono ?_); rintro e w' ⟨rfl, rfl⟩))
    go_ret
    refine ⟨ret_bool ?_, rfl⟩
    rw [heapB, decide_eq_false (by omega)]
theorem refInHeap_any (line lines : Int) (w : World) : Calls Try.prog 28 #[.int .i64 line, .int .i64 lines] w fun e w' => e = .returned (.bool (heapB line lines)) ∧ w = w' := by
  go_enter Try.func28, Try.ntmps28
  by_cases h1 : 98 ≤ lines
  · by_cases h2 : lines ≤ 256
    · by_cases h3 : 96 ≤ line
      · go_wp2
        go_ret
        refine ⟨ret_bool ?_, rfl⟩
        rw [heapB, decide_eq_decide]; omega
      · go_wp2
        go_ret
        refine ⟨ret_bool ?_, rfl⟩
        rw [heapB, decide_eq_false (by omega)]
    · go_wp2
      go_ret
      refine ⟨ret_bool ?_, rfl⟩
      rw [heapB, decide_eq_false (by omega)]
  · go_wp2
    go_ret
    refine ⟨ret_bool ?_, rfl⟩
    rw [heapB, decide_eq_false (by omega)]
theorem iv_no (n : Int) (w : World) (h : ¬ (1 ≤ n ∧ n ≤ 5)) : Calls Try.prog 8 #[.int .i64 n] w fun e w' => e = .returned (.tuple #[.int .u64 0, .int .i64 2]) ∧ w = w' := by
  have W := within_l n 1 5 w
  rw [decide_eq_false h] at W
  go_enter Try.func8, Try.ntmps8
  go_wp2_with (first | (go_at_call 43; refine W.mono ?_; rintro e w' ⟨rfl, rfl⟩))
  go_ret2
  exact ⟨rfl, rfl⟩
theorem iv_ok (n : Nat) (w : World) (h : 1 ≤ n ∧ n ≤ 5) : Calls Try.prog 8 #[.int .i64 n] w fun e w' => e = .returned (.tuple #[.int .u64 (ivs n), .int .i64 0]) ∧ w = w' := by
  have W := within_l n 1 5 w
  rw [decide_eq_true (show (1 : Int) ≤ n ∧ (n : Int) ≤ 5 by omega)] at W
  go_enter Try.func8, Try.ntmps8
  go_wp2_with (first | (go_at_call 43; refine W.mono ?_; rintro e w' ⟨rfl, rfl⟩))
  go_loopw [4, 10] (fun s4 s10 wr => ∃ k : Nat, k ≤ n ∧ s10 = .int .i64 k ∧ s4 = .int .u64 (ivs k) ∧ wr = w) (fun _ s10 _ => n - (intOf s10).toNat)
  case atStart => exact ⟨0, by omega, rfl, rfl, rfl⟩
  case round =>
    obtain ⟨k, hk, rfl, rfl, rfl⟩ := hrel
    by_cases hlt : k < n
    · have hk5 : k = 0 ∨ k = 1 ∨ k = 2 ∨ k = 3 ∨ k = 4 := by omega
      have hki : (k : Int) < n := by omega
      rcases hk5 with rfl | rfl | rfl | rfl | rfl
      · go_wp2; go_roundw
        case rel => exact ⟨1, by omega, rfl, by first | rfl | exact congrArg _ (by decide), by trivial⟩
        case measure => simp [intOf]; omega
      · go_wp2; go_roundw
        case rel => exact ⟨2, by omega, rfl, by first | rfl | exact congrArg _ (by decide), by trivial⟩
        case measure => simp [intOf]; omega
      · go_wp2; go_roundw
        case rel => exact ⟨3, by omega, rfl, by first | rfl | exact congrArg _ (by decide), by trivial⟩
        case measure => simp [intOf]; omega
      · go_wp2; go_roundw
        case rel => exact ⟨4, by omega, rfl, by first | rfl | exact congrArg _ (by decide), by trivial⟩
        case measure => simp [intOf]; omega
      · go_wp2; go_roundw
        case rel => exact ⟨5, by omega, rfl, by first | rfl | exact congrArg _ (by decide), by trivial⟩
        case measure => simp [intOf]; omega
    · obtain rfl : n = k := by omega
      go_wp2
      go_ret2
      exact ⟨rfl, rfl⟩
theorem iv_any (n : Int) (w : World) : Calls Try.prog 8 #[.int .i64 n] w fun e w' => e = .returned (.tuple #[.int .u64 (ivV n), .int .i64 (ivE n)]) ∧ w = w' := by
  by_cases h : 1 ≤ n ∧ n ≤ 5
  · obtain ⟨k, rfl⟩ : ∃ k : Nat, n = k := ⟨n.toNat, by omega⟩
    rw [ivV, ivE, if_pos h, if_pos h]
    exact iv_ok k w (by omega)
  · rw [ivV, ivE, if_neg h, if_neg h]
    exact iv_no n w h
theorem refIv_no (n : Int) (w : World) (h : ¬ (1 ≤ n ∧ n ≤ 5)) : Calls Try.prog 9 #[.int .i64 n] w fun e w' => e = .returned (.tuple #[.int .u64 0, .int .i64 2]) ∧ w = w' := by
  go_enter Try.func9, Try.ntmps9
  by_cases h1 : n < 1
  · go_wp2
    go_ret2
    exact ⟨rfl, rfl⟩
  · have h2 : 5 < n := by omega
    go_wp2
    go_ret2
    exact ⟨rfl, rfl⟩
theorem refIv_ok (n : Nat) (w : World) (h : 1 ≤ n ∧ n ≤ 5) : Calls Try.prog 9 #[.int .i64 n] w fun e w' => e = .returned (.tuple #[.int .u64 (ivs n), .int .i64 0]) ∧ w = w' := by
  have h1 : ¬ (n : Int) < 1 := by omega
  have h2 : ¬ 5 < (n : Int) := by omega
  go_enter Try.func9, Try.ntmps9
  go_wp2_with fail
  go_loopw [4, 5] (fun s4 s10 wr => ∃ k : Nat, k ≤ n ∧ s10 = .int .i64 k ∧ s4 = .int .u64 (ivs k) ∧ wr = w) (fun _ s10 _ => n - (intOf s10).toNat)
  case atStart => exact ⟨0, by omega, rfl, rfl, rfl⟩
  case round =>
    obtain ⟨k, hk, rfl, rfl, rfl⟩ := hrel
    by_cases hlt : k < n
    · have hk5 : k = 0 ∨ k = 1 ∨ k = 2 ∨ k = 3 ∨ k = 4 := by omega
      have hki : (k : Int) < n := by omega
      rcases hk5 with rfl | rfl | rfl | rfl | rfl
      · go_wp2; go_roundw
        case rel => exact ⟨1, by omega, rfl, by first | rfl | exact congrArg _ (by decide), by trivial⟩
        case measure => simp [intOf]; omega
      · go_wp2; go_roundw
        case rel => exact ⟨2, by omega, rfl, by first | rfl | exact congrArg _ (by decide), by trivial⟩
        case measure => simp [intOf]; omega
      · go_wp2; go_roundw
        case rel => exact ⟨3, by omega, rfl, by first | rfl | exact congrArg _ (by decide), by trivial⟩
        case measure => simp [intOf]; omega
      · go_wp2; go_roundw
        case rel => exact ⟨4, by omega, rfl, by first | rfl | exact congrArg _ (by decide), by trivial⟩
        case measure => simp [intOf]; omega
      · go_wp2; go_roundw
        case rel => exact ⟨5, by omega, rfl, by first | rfl | exact congrArg _ (by decide), by trivial⟩
        case measure => simp [intOf]; omega
    · obtain rfl : n = k := by omega
      go_wp2
      go_ret2
      exact ⟨rfl, rfl⟩
theorem refIv_any (n : Int) (w : World) : Calls Try.prog 9 #[.int .i64 n] w fun e w' => e = .returned (.tuple #[.int .u64 (ivV n), .int .i64 (ivE n)]) ∧ w = w' := by
  by_cases h : 1 ≤ n ∧ n ≤ 5
  · obtain ⟨k, rfl⟩ : ∃ k : Nat, n = k := ⟨n.toNat, by omega⟩
    rw [ivV, ivE, if_pos h, if_pos h]
    exact refIv_ok k w (by omega)
  · rw [ivV, ivE, if_neg h, if_neg h]
    exact refIv_no n w h
theorem refClient_any (c : Int) (w : World) : Calls Try.prog 45 #[.int .i64 c] w fun e w' => e = .returned (.bool (decide (0 ≤ c ∧ c ≤ 5))) ∧ w = w' := by
  go_enter Try.func45, Try.ntmps45
  by_cases h1 : 0 ≤ c
  · go_wp2
    go_ret
    exact ⟨ret_bool (by rw [Bool.eq_iff_iff]; simp; omega), rfl⟩
  · go_wp2
    go_ret
    exact ⟨ret_bool (by rw [Bool.eq_iff_iff]; simp; omega), rfl⟩
theorem refDoor_any (c : Int) (w : World) : Calls Try.prog 12 #[.int .i64 c] w fun e w' => e = .returned (.int .i64 (adr 24 1 0 5 c)) ∧ w = w' := by
  have C := refClient_any c w
  go_enter Try.func12, Try.ntmps12
  by_cases h : 0 ≤ c ∧ c ≤ 5
  · rw [decide_eq_true h] at C
    skip
    go_wp2_with (first | (go_at_call 45; refine C.mono ?_; rintro e w' ⟨rfl, rfl⟩))
    go_ret
    exact ⟨ret_int (by rw [adr_yes h]; omega), rfl⟩
  · rw [decide_eq_false h] at C
    go_wp2_with (first | (go_at_call 45; refine C.mono ?_; rintro e w' ⟨rfl, rfl⟩))
    go_ret
    exact ⟨ret_int (adr_no h).symm, rfl⟩
theorem refClock_any (c : Int) (w : World) : Calls Try.prog 14 #[.int .i64 c] w fun e w' => e = .returned (.int .i64 (adr 32 1 0 5 c)) ∧ w = w' := by
  have C := refClient_any c w
  go_enter Try.func14, Try.ntmps14
  by_cases h : 0 ≤ c ∧ c ≤ 5
  · rw [decide_eq_true h] at C
    skip
    go_wp2_with (first | (go_at_call 45; refine C.mono ?_; rintro e w' ⟨rfl, rfl⟩))
    go_ret
    exact ⟨ret_int (by rw [adr_yes h]; omega), rfl⟩
  · rw [decide_eq_false h] at C
    go_wp2_with (first | (go_at_call 45; refine C.mono ?_; rintro e w' ⟨rfl, rfl⟩))
    go_ret
    exact ⟨ret_int (adr_no h).symm, rfl⟩
theorem refLeaseAt_any (c : Int) (w : World) : Calls Try.prog 16 #[.int .i64 c] w fun e w' => e = .returned (.int .i64 (adr 40 1 0 5 c)) ∧ w = w' := by
  have C := refClient_any c w
  go_enter Try.func16, Try.ntmps16
  by_cases h : 0 ≤ c ∧ c ≤ 5
  · rw [decide_eq_true h] at C
    skip
    go_wp2_with (first | (go_at_call 45; refine C.mono ?_; rintro e w' ⟨rfl, rfl⟩))
    go_ret
    exact ⟨ret_int (by rw [adr_yes h]; omega), rfl⟩
  · rw [decide_eq_false h] at C
    go_wp2_with (first | (go_at_call 45; refine C.mono ?_; rintro e w' ⟨rfl, rfl⟩))
    go_ret
    exact ⟨ret_int (adr_no h).symm, rfl⟩
theorem refConsensusAt_any (c : Int) (w : World) : Calls Try.prog 18 #[.int .i64 c] w fun e w' => e = .returned (.int .i64 (adr 8 1 0 15 c)) ∧ w = w' := by
  go_enter Try.func18, Try.ntmps18
  by_cases h1 : c < 0
  · go_wp2
    go_ret
    exact ⟨ret_int (adr_no (by omega)).symm, rfl⟩
  · by_cases h2 : 15 < c
    · go_wp2
      go_ret
      exact ⟨ret_int (adr_no (by omega)).symm, rfl⟩
    · go_wp2
      go_ret
      exact ⟨ret_int (by rw [adr_yes (by omega)]; omega), rfl⟩
theorem refMarkAt_any (c : Int) (w : World) : Calls Try.prog 20 #[.int .i64 c] w fun e w' => e = .returned (.int .i64 (adr 48 120 0 5 c)) ∧ w = w' := by
  have C := refClient_any c w
  go_enter Try.func20, Try.ntmps20
  by_cases h : 0 ≤ c ∧ c ≤ 5
  · rw [decide_eq_true h] at C
    skip
    go_wp2_with (first | (go_at_call 45; refine C.mono ?_; rintro e w' ⟨rfl, rfl⟩))
    go_ret
    exact ⟨ret_int (by rw [adr_yes h]; omega), rfl⟩
  · rw [decide_eq_false h] at C
    go_wp2_with (first | (go_at_call 45; refine C.mono ?_; rintro e w' ⟨rfl, rfl⟩))
    go_ret
    exact ⟨ret_int (adr_no h).symm, rfl⟩
theorem refTagAt_any (c : Int) (w : World) : Calls Try.prog 22 #[.int .i64 c] w fun e w' => e = .returned (.int .i64 (adr 49 120 0 5 c)) ∧ w = w' := by
  have C := refClient_any c w
  have M := refMarkAt_any c w
  go_enter Try.func22, Try.ntmps22
  by_cases h : 0 ≤ c ∧ c ≤ 5
  · rw [decide_eq_true h] at C
    rw [adr_yes h] at M
    go_wp2_with (first | (go_at_call 45; refine C.mono ?_; rintro e w' ⟨rfl, rfl⟩) | (go_at_call 20; refine M.mono ?_; rintro e w' ⟨rfl, rfl⟩))
    go_ret
    exact ⟨ret_int (by rw [adr_yes h]; omega), rfl⟩
  · rw [decide_eq_false h] at C
    go_wp2_with (first | (go_at_call 45; refine C.mono ?_; rintro e w' ⟨rfl, rfl⟩) | (go_at_call 20; refine M.mono ?_; rintro e w' ⟨rfl, rfl⟩))
    go_ret
    exact ⟨ret_int (adr_no h).symm, rfl⟩
theorem refBodyAt_any (c : Int) (w : World) : Calls Try.prog 24 #[.int .i64 c] w fun e w' => e = .returned (.int .i64 (adr 56 120 0 5 c)) ∧ w = w' := by
  have C := refClient_any c w
  have M := refMarkAt_any c w
  go_enter Try.func24, Try.ntmps24
  by_cases h : 0 ≤ c ∧ c ≤ 5
  · rw [decide_eq_true h] at C
    rw [adr_yes h] at M
    go_wp2_with (first | (go_at_call 45; refine C.mono ?_; rintro e w' ⟨rfl, rfl⟩) | (go_at_call 20; refine M.mono ?_; rintro e w' ⟨rfl, rfl⟩))
    go_ret
    exact ⟨ret_int (by rw [adr_yes h]; omega), rfl⟩
  · rw [decide_eq_false h] at C
    go_wp2_with (first | (go_at_call 45; refine C.mono ?_; rintro e w' ⟨rfl, rfl⟩) | (go_at_call 20; refine M.mono ?_; rintro e w' ⟨rfl, rfl⟩))
    go_ret
    exact ⟨ret_int (adr_no h).symm, rfl⟩
theorem refPageAt_any (c : Int) (w : World) : Calls Try.prog 26 #[.int .i64 c] w fun e w' => e = .returned (.int .i64 (adr 768 8 96 255 c)) ∧ w = w' := by
  go_enter Try.func26, Try.ntmps26
  by_cases h1 : c < 96
  · go_wp2
    go_ret
    exact ⟨ret_int (adr_no (by omega)).symm, rfl⟩
  · by_cases h2 : 255 < c
    · go_wp2
      go_ret
      exact ⟨ret_int (adr_no (by omega)).symm, rfl⟩
    · go_wp2
      go_ret
      exact ⟨ret_int (by rw [adr_yes (by omega)]; omega), rfl⟩
theorem thn {w w1 w2 : World} (h : Lk (Below w.heap.size w w1)) (k : Lk (Below w1.heap.size w1 w2)) : Lk (Below w.heap.size w w2) := ⟨h.out.trans (k.out.mono h.out.size)⟩
theorem awake_l (w : World) : Calls Try.prog 10 #[] w fun e w' => e = .returned (.bool true) ∧ Lk (Below w.heap.size w w') := by
  go_enter Try.func10, Try.ntmps10
  go_wp2_with (first
    | (go_at_call 8; refine (iv_any _ _).mono ?_; rintro e w' ⟨rfl, rfl⟩)
    | (go_at_call 11; refine (door_any _ _).mono ?_; rintro e w1 ⟨rfl, H1⟩)
    | (go_at_call 19; refine (mark_any _ _).mono ?_; rintro e w2 ⟨rfl, H2⟩)
    | (go_at_call 23; refine (body_any _ _).mono ?_; rintro e w3 ⟨rfl, H3⟩)
    | (go_at_call 25; refine (page_any _ _).mono ?_; rintro e w4 ⟨rfl, H4⟩))
  go_ret
  exact ⟨ret_bool (by decide), thn (thn (thn H1 H2) H3) H4⟩
end Go.Proofs.Ytadeghfhjiohnaa.Lb
