/-
  Contracts of the small functions of packages word and bodegaref1: low, ones, within, isField.
-/
import Derived.Test.YtdodigfojbijfaaProg
import Derived.WalkKit
import Derived.ProofKit
import Derived.OpenShut
import Derived.BigQuiet
import Derived.Deep.QuietTactic
import Derived.Lib.Hide
namespace Go.Proofs.Ytdodigfojbijfaa.Wa
open Go.ChangeShapes Go.WideShapes Go.ChangeAt Go.RowKit
set_option linter.unusedVariables false

def isIn (v a b : Int) : Bool := decide (a ≤ v) && decide (v ≤ b)
theorem within_int (v a b : Int) (w : World) :
    Calls Try.prog 61 #[.int .i64 v, .int .i64 a, .int .i64 b] w fun e w' => e = .returned (.bool (isIn v a b)) ∧ w = w' := by
  unfold isIn
  go_enter Try.func61, Try.ntmps61
  go_wp2
  all_goals (go_ret; refine ⟨?_, rfl⟩; simp [*] <;> omega)

theorem within_u64 (v a b : Int) (w : World) :
    Calls Try.prog 68 #[.int .u64 v, .int .u64 a, .int .u64 b] w fun e w' => e = .returned (.bool (isIn v a b)) ∧ w = w' := by
  unfold isIn
  go_enter Try.func68, Try.ntmps68
  go_wp2
  all_goals (go_ret; refine ⟨?_, rfl⟩; simp [*] <;> omega)

theorem pow_lt64 (k : Nat) (h : k ≤ 63) : (2 : Int) ^ k ≤ 9223372036854775808 ∧ 1 ≤ (2 : Int) ^ k := by
  have h1 : (2 : Nat) ^ k ≤ 2 ^ 63 := Nat.pow_le_pow_right (by decide) h
  have h2 : 0 < (2 : Nat) ^ k := Nat.two_pow_pos k
  have h3 : ((2 ^ k : Nat) : Int) = (2 : Int) ^ k := by simp
  omega

theorem low_num (k : Nat) (h : k ≤ 64) : IntKind.u64.wrap (IntKind.u64.wrap (2 ^ k) - 1) = 2 ^ k - 1 := by
  rw [IntKind.wrap_u64, IntKind.wrap_u64]
  by_cases e : k = 64
  · subst e; decide
  · have := pow_lt64 k (by omega)
    generalize (2 : Int) ^ k = p at *
    omega

theorem low_any (n : Int) (w : World) (h0 : 0 ≤ n) (h1 : n ≤ 64) :
    Calls Try.prog 67 #[.int .i64 n] w fun e w' => e = .returned (.int .u64 (2 ^ n.toNat - 1)) ∧ w = w' := by
  go_enter Try.func67, Try.ntmps67
  go_wp2
  go_ret
  refine ⟨?_, rfl⟩
  simp
  exact low_num _ (by omega)

def isFieldB (a n : Int) : Bool := decide (1 ≤ n ∧ n ≤ 64 ∧ 0 ≤ a ∧ a ≤ 64 - n)
theorem isClient_any (c : Int) (w : World) :
    Calls Try.prog 62 #[.int .i64 c] w fun e w' => e = .returned (.bool (isIn c 0 5)) ∧ w = w' := by
  unfold isIn
  go_enter Try.func62, Try.ntmps62
  go_wp2
  all_goals (go_ret; refine ⟨?_, rfl⟩; simp [*] <;> omega)

theorem client_any (c : Int) (w : World) :
    Calls Try.prog 63 #[.int .i64 c] w fun e w' => e = .returned (.bool (isIn c 0 5)) ∧ w = w' := by
  unfold isIn
  go_enter Try.func63, Try.ntmps63
  go_wp2
  all_goals (go_ret; refine ⟨?_, rfl⟩; simp [*] <;> omega)

def isInc (i : Int) : Bool := decide (1 ≤ i ∧ i ≤ 59 ∧ i % 2 = 1)
end Go.Proofs.Ytdodigfojbijfaa.Wa
