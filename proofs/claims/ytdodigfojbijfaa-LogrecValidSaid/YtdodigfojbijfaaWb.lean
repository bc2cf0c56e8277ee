/-
  Contracts of the functions of packages word and bodegaref1: what each returns, as numbers.
-/
import Derived.Test.YtdodigfojbijfaaWa
import Derived.Laws.BitsLemmas
import Derived.Laws.BitsAllLaws
namespace Go.Proofs.Ytdodigfojbijfaa.Wb
open Go.ChangeShapes Go.WideShapes Go.ChangeAt Go.RowKit Wa
set_option linter.unusedVariables false
set_option linter.unusedSimpArgs false

theorem ret_tup2 {k1 k2 : IntKind} {a b a' b' : Int} (h1 : a = a') (h2 : b = b') : Ending.returned (.tuple #[.int k1 a, .int k2 b]) = .returned (.tuple #[.int k1 a', .int k2 b']) := by rw [h1, h2]
theorem ret_tupb {k1 : IntKind} {a a' : Int} {b b' : Bool} (h1 : a = a') (h2 : b = b') : Ending.returned (.tuple #[.int k1 a, .bool b]) = .returned (.tuple #[.int k1 a', .bool b']) := by rw [h1, h2]
theorem ret_tup3 {k1 k2 k3 : IntKind} {a b c a' b' c' : Int} (h1 : a = a') (h2 : b = b') (h3 : c = c') : Ending.returned (.tuple #[.int k1 a, .int k2 b, .int k3 c]) = .returned (.tuple #[.int k1 a', .int k2 b', .int k3 c']) := by rw [h1, h2, h3]
theorem ret_tup3b {k1 k2 : IntKind} {a b a' b' : Int} {c c' : Bool} (h1 : a = a') (h2 : b = b') (h3 : c = c') : Ending.returned (.tuple #[.int k1 a, .int k2 b, .bool c]) = .returned (.tuple #[.int k1 a', .int k2 b', .bool c']) := by rw [h1, h2, h3]
theorem ret_bool {b b' : Bool} (h : b = b') : Ending.returned (.bool b) = .returned (.bool b') := by rw [h]

theorem wraps_u64 (n : Int) (h₀ : 0 ≤ n) (h₁ : n < 2 ^ 64) : IntKind.u64.wrap n = n := by rw [IntKind.wrap_u64]; omega
theorem or_u64 (k : Nat) (Q : Int) (hQ : (2 : Int) ^ k = Q) {x y : Int} (hx0 : 0 ≤ x) (hx : x % Q = 0) (hx1 : x < 18446744073709551616) (hy0 : 0 ≤ y) (hy : y < Q) (hy1 : y < 18446744073709551616) :
    bits .or .u64 x y = x + y := by
  subst hQ
  exact bits_join .u64 64 (by decide) wraps_u64 k x y hx0 hx (by simpa using hx1) hy0 hy (by simpa using hy1)
theorem and_u64 (k : Nat) (hk : k ≤ 64) (x : Int) (h0 : 0 ≤ x) (h1 : x < 18446744073709551616) : bits .and .u64 x (2 ^ k - 1) = x % 2 ^ k :=
  bits_mask .u64 64 (by decide) wraps_u64 k hk x h0 (by simpa using h1)
theorem and3 (x : Int) (h0 : 0 ≤ x) (h1 : x < 18446744073709551616) : bits .and .u64 x 3 = x % 4 := and_u64 2 (by decide) x h0 h1
theorem and7 (x : Int) (h0 : 0 ≤ x) (h1 : x < 18446744073709551616) : bits .and .u64 x 7 = x % 8 := and_u64 3 (by decide) x h0 h1
theorem and255 (x : Int) (h0 : 0 ≤ x) (h1 : x < 18446744073709551616) : bits .and .u64 x 255 = x % 256 := and_u64 8 (by decide) x h0 h1
theorem and4095 (x : Int) (h0 : 0 ≤ x) (h1 : x < 18446744073709551616) : bits .and .u64 x 4095 = x % 4096 := and_u64 12 (by decide) x h0 h1
theorem and32 (x : Int) (h0 : 0 ≤ x) (h1 : x < 18446744073709551616) : bits .and .u64 x 4294967295 = x % 4294967296 := and_u64 32 (by decide) x h0 h1
theorem and40 (x : Int) (h0 : 0 ≤ x) (h1 : x < 18446744073709551616) : bits .and .u64 x 1099511627775 = x % 1099511627776 := and_u64 40 (by decide) x h0 h1

def headerV (v o : Int) : Int := if (1 ≤ v ∧ v < 281474976710656) ∧ 0 ≤ o ∧ o ≤ 6 then v * 256 + o else 0
def headerE (v o : Int) : Int := if 1 ≤ v ∧ v < 281474976710656 then (if 0 ≤ o ∧ o ≤ 6 then 0 else 1) else 2
def lockV (h c : Int) : Int := if (0 ≤ c ∧ c ≤ 5) ∧ h % 256 = 0 then h + (c + 1) else 0
def lockE (h c : Int) : Int := if 0 ≤ c ∧ c ≤ 5 then (if h % 256 = 0 then 0 else 3) else 1
def nextV (h : Int) : Int := if 256 ≤ h ∧ h < 72057594037927680 then (h / 256 + 1) * 256 else 0
def nextE (h : Int) : Int := if 256 ≤ h ∧ h < 72057594037927680 then 0 else 2
def keyV (n : Int) (b : Bool) : Int := if 0 ≤ n ∧ n ≤ 15 then 2 * n + (if b then 1 else 0) else 0
def keyE (n : Int) : Int := if 0 ≤ n ∧ n ≤ 15 then 0 else 2
def markV (s : Int) : Int := if 1 ≤ s ∧ s ≤ 1073741823 then s * 4 + 2 else 0
def markE (s : Int) : Int := if 1 ≤ s ∧ s ≤ 1073741823 then 0 else 2
def tagV (i c : Int) : Int := if (1 ≤ i ∧ i ≤ 59 ∧ i % 2 = 1) ∧ 0 ≤ c ∧ c ≤ 5 then i * 256 + (c + 1) else 0
def tagE (i c : Int) : Int := if 1 ≤ i ∧ i ≤ 59 ∧ i % 2 = 1 then (if 0 ≤ c ∧ c ≤ 5 then 0 else 1) else 2
def leaseV (i u : Int) : Int := if (1 ≤ i ∧ i ≤ 59 ∧ i % 2 = 1) ∧ 0 ≤ u ∧ u ≤ 4294967295 then i * 4294967296 + u else 0
def leaseE (i u : Int) : Int := if 1 ≤ i ∧ i ≤ 59 ∧ i % 2 = 1 then (if 0 ≤ u ∧ u ≤ 4294967295 then 0 else 1) else 2
def ballotV (r c : Int) : Int := if (1 ≤ r ∧ r ≤ 500) ∧ 0 ≤ c ∧ c ≤ 5 then r * 8 + (c + 1) else 0
def ballotE (r c : Int) : Int := if 1 ≤ r ∧ r ≤ 500 then (if 0 ≤ c ∧ c ≤ 5 then 0 else 1) else 2
def consV (p a v : Int) : Int := if p ≤ 4095 ∧ a ≤ 4095 ∧ v ≤ 1099511627775 then p * 4503599627370496 + a * 1099511627776 + v else 0
def consE (p a v : Int) : Int := if p ≤ 4095 ∧ a ≤ 4095 ∧ v ≤ 1099511627775 then 0 else 2

theorem header_any (v o : Int) (w : World) (hv : 0 ≤ v) :
    Calls Try.prog 65 #[.int .u64 v, .int .i64 o] w fun e w' => e = .returned (.tuple #[.int .u64 (headerV v o), .int .i64 (headerE v o)]) ∧ w = w' := by
  go_enter Try.func65, Try.ntmps65
  go_wp2
  all_goals (go_ret2; refine ⟨ret_tup2 ?_ ?_, rfl⟩)
  all_goals try simp only [Bool.not_eq_true', Bool.not_eq_false', decide_eq_true_eq, decide_eq_false_iff_not, beq_iff_eq, beq_eq_false_iff_ne, ne_eq, bne_iff_ne] at *
  all_goals try rw [or_u64 8 256 (by decide)]
  all_goals try simp only [IntKind.wrap_u64, wrap64, headerV, headerE] at *
  all_goals first | omega | (split <;> omega) | (split <;> split <;> omega) | (simp only [if_true, if_false, Bool.false_eq_true]; split <;> omega)

theorem lock_any (h c : Int) (w : World) (h0 : 0 ≤ h) (h1 : h < 18446744073709551616) :
    Calls Try.prog 52 #[.int .u64 h, .int .i64 c] w fun e w' => e = .returned (.tuple #[.int .u64 (lockV h c), .int .i64 (lockE h c)]) ∧ w = w' := by
  have ha := and255 h h0 h1
  go_enter Try.func52, Try.ntmps52
  go_wp2
  all_goals (go_ret2; refine ⟨ret_tup2 ?_ ?_, rfl⟩)
  all_goals try simp only [Bool.not_eq_true', Bool.not_eq_false', decide_eq_true_eq, decide_eq_false_iff_not, beq_iff_eq, beq_eq_false_iff_ne, ne_eq, bne_iff_ne] at *
  all_goals try rw [or_u64 8 256 (by decide)]
  all_goals try simp only [IntKind.wrap_u64, wrap64, lockV, lockE] at *
  all_goals first | omega | (split <;> omega) | (split <;> split <;> omega) | (simp only [if_true, if_false, Bool.false_eq_true]; split <;> omega)

theorem lock_ref (h c : Int) (w : World) (h0 : 0 ≤ h) (h1 : h < 18446744073709551616) :
    Calls Try.prog 53 #[.int .u64 h, .int .i64 c] w fun e w' => e = .returned (.tuple #[.int .u64 (lockV h c), .int .i64 (lockE h c)]) ∧ w = w' := by
  have ha := and255 h h0 h1
  go_enter Try.func53, Try.ntmps53
  go_wp2
  all_goals (go_ret2; refine ⟨ret_tup2 ?_ ?_, rfl⟩)
  all_goals try simp only [Bool.not_eq_true', Bool.not_eq_false', decide_eq_true_eq, decide_eq_false_iff_not, beq_iff_eq, beq_eq_false_iff_ne, ne_eq, bne_iff_ne] at *
  all_goals try rw [or_u64 8 256 (by decide)]
  all_goals try simp only [IntKind.wrap_u64, wrap64, lockV, lockE] at *
  all_goals first | omega | (split <;> omega) | (split <;> split <;> omega) | (simp only [if_true, if_false, Bool.false_eq_true]; split <;> omega)

theorem next_any (h : Int) (w : World) (h0 : 0 ≤ h) (h1 : h < 18446744073709551616) :
    Calls Try.prog 54 #[.int .u64 h] w fun e w' => e = .returned (.tuple #[.int .u64 (nextV h), .int .i64 (nextE h)]) ∧ w = w' := by
  go_enter Try.func54, Try.ntmps54
  go_wp2
  all_goals (go_ret2; refine ⟨ret_tup2 ?_ ?_, rfl⟩)
  all_goals try simp only [Bool.not_eq_true', Bool.not_eq_false', decide_eq_true_eq, decide_eq_false_iff_not, beq_iff_eq, beq_eq_false_iff_ne, ne_eq, bne_iff_ne] at *
  all_goals try rw [or_u64 8 256 (by decide)]
  all_goals try simp only [IntKind.wrap_u64, wrap64, nextV, nextE] at *
  all_goals first | omega | (split <;> omega) | (split <;> split <;> omega) | (simp only [if_true, if_false, Bool.false_eq_true]; split <;> omega)

theorem next_ref (h : Int) (w : World) (h0 : 0 ≤ h) (h1 : h < 18446744073709551616) :
    Calls Try.prog 42 #[.int .u64 h] w fun e w' => e = .returned (.tuple #[.int .u64 (nextV h), .int .i64 (nextE h)]) ∧ w = w' := by
  go_enter Try.func42, Try.ntmps42
  go_wp2
  all_goals (go_ret2; refine ⟨ret_tup2 ?_ ?_, rfl⟩)
  all_goals try simp only [Bool.not_eq_true', Bool.not_eq_false', decide_eq_true_eq, decide_eq_false_iff_not, beq_iff_eq, beq_eq_false_iff_ne, ne_eq, bne_iff_ne] at *
  all_goals try rw [or_u64 8 256 (by decide)]
  all_goals try simp only [IntKind.wrap_u64, wrap64, nextV, nextE] at *
  all_goals first | omega | (split <;> omega) | (split <;> split <;> omega) | (simp only [if_true, if_false, Bool.false_eq_true]; split <;> omega)

theorem mark_any (s : Int) (w : World)  :
    Calls Try.prog 51 #[.int .i64 s] w fun e w' => e = .returned (.tuple #[.int .u64 (markV s), .int .i64 (markE s)]) ∧ w = w' := by
  go_enter Try.func51, Try.ntmps51
  go_wp2
  all_goals (go_ret2; refine ⟨ret_tup2 ?_ ?_, rfl⟩)
  all_goals try simp only [Bool.not_eq_true', Bool.not_eq_false', decide_eq_true_eq, decide_eq_false_iff_not, beq_iff_eq, beq_eq_false_iff_ne, ne_eq, bne_iff_ne] at *
  all_goals try rw [or_u64 2 4 (by decide)]
  all_goals try simp only [IntKind.wrap_u64, wrap64, markV, markE] at *
  all_goals first | omega | (split <;> omega) | (split <;> split <;> omega) | (simp only [if_true, if_false, Bool.false_eq_true]; split <;> omega)

theorem mark_ref (s : Int) (w : World)  :
    Calls Try.prog 23 #[.int .i64 s] w fun e w' => e = .returned (.tuple #[.int .u64 (markV s), .int .i64 (markE s)]) ∧ w = w' := by
  go_enter Try.func23, Try.ntmps23
  go_wp2
  all_goals (go_ret2; refine ⟨ret_tup2 ?_ ?_, rfl⟩)
  all_goals try simp only [Bool.not_eq_true', Bool.not_eq_false', decide_eq_true_eq, decide_eq_false_iff_not, beq_iff_eq, beq_eq_false_iff_ne, ne_eq, bne_iff_ne] at *
  all_goals try rw [or_u64 2 4 (by decide)]
  all_goals try simp only [IntKind.wrap_u64, wrap64, markV, markE] at *
  all_goals first | omega | (split <;> omega) | (split <;> split <;> omega) | (simp only [if_true, if_false, Bool.false_eq_true]; split <;> omega)

end Go.Proofs.Ytdodigfojbijfaa.Wb
