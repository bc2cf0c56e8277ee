/-
  Contracts of the functions of packages word and bodegaref1 that split words, and of Field, SetField, Pick and awake.
-/
import Derived.Test.YtdodigfojbijfaaWb
namespace Go.Proofs.Ytdodigfojbijfaa.Wc
open Go.ChangeShapes Go.WideShapes Go.ChangeAt Go.RowKit Wa Wb
set_option linter.unusedVariables false
set_option linter.unusedSimpArgs false

theorem splitHeader_any (h : Int) (w : World) (h0 : 0 ≤ h) (h1 : h < 18446744073709551616) :
    Calls Try.prog 64 #[.int .u64 h] w fun e w' => e = .returned (.tuple #[.int .u64 (h / 256), .int .i64 (h % 256)]) ∧ w = w' := by
  have ha := and255 h h0 h1
  go_enter Try.func64, Try.ntmps64
  go_wp2
  all_goals (go_ret2; refine ⟨ret_tup2 ?_ ?_, rfl⟩)
  all_goals try simp only [Bool.not_eq_true', Bool.not_eq_false', decide_eq_true_eq, decide_eq_false_iff_not, beq_iff_eq, beq_eq_false_iff_ne, ne_eq, bne_iff_ne] at *
  all_goals try simp only [IntKind.wrap_u64, wrap64, ] at *
  all_goals first | omega

theorem unlocked_any (h : Int) (w : World) (h0 : 0 ≤ h) (h1 : h < 18446744073709551616) :
    Calls Try.prog 56 #[.int .u64 h] w fun e w' => e = .returned (.bool (h % 256 == 0)) ∧ w = w' := by
  have ha := and255 h h0 h1
  go_enter Try.func56, Try.ntmps56
  go_wp2
  all_goals (go_ret; refine ⟨ret_bool ?_, rfl⟩)
  all_goals try simp only [Bool.not_eq_true', Bool.not_eq_false', decide_eq_true_eq, decide_eq_false_iff_not, beq_iff_eq, beq_eq_false_iff_ne, ne_eq, bne_iff_ne] at *
  all_goals try simp only [IntKind.wrap_u64, wrap64, ] at *
  all_goals first | done | rfl

theorem unlocked_ref (h : Int) (w : World) (h0 : 0 ≤ h) (h1 : h < 18446744073709551616) :
    Calls Try.prog 43 #[.int .u64 h] w fun e w' => e = .returned (.bool (h % 256 == 0)) ∧ w = w' := by
  have ha := and255 h h0 h1
  go_enter Try.func43, Try.ntmps43
  go_wp2
  all_goals (go_ret; refine ⟨ret_bool ?_, rfl⟩)
  all_goals try simp only [Bool.not_eq_true', Bool.not_eq_false', decide_eq_true_eq, decide_eq_false_iff_not, beq_iff_eq, beq_eq_false_iff_ne, ne_eq, bne_iff_ne] at *
  all_goals try simp only [IntKind.wrap_u64, wrap64, ] at *
  all_goals first | done | rfl

def splitMarkV (h : Int) : Int := if h % 4 = 2 ∧ 4 ≤ h ∧ h < 4294967296 then h / 4 else 0
def splitMarkB (h : Int) : Bool := decide (h % 4 = 2 ∧ 4 ≤ h ∧ h < 4294967296)
def isTag (h : Int) : Bool := decide ((1 ≤ h / 256 ∧ h / 256 ≤ 59 ∧ h / 256 % 2 = 1) ∧ 1 ≤ h % 256 ∧ h % 256 ≤ 6)
def tagI (h : Int) : Int := if isTag h then h / 256 else 0
def tagC (h : Int) : Int := if isTag h then h % 256 - 1 else 0
theorem tag_yes {h : Int} (k : isTag h = true) : (tagE (h / 256) (h % 256 - 1) != 0) = false ∧ (tagV (h / 256) (h % 256 - 1) != h) = false := by
  unfold isTag at k
  simp only [decide_eq_true_eq] at k
  simp only [bne_eq_false_iff_eq, tagE, tagV]
  rw [if_pos k.1, if_pos (by omega), if_pos (by omega)]
  omega
theorem tag_no {h : Int} (k : isTag h = false) (h0 : 0 ≤ h) : (tagE (h / 256) (h % 256 - 1) != 0) = true := by
  unfold isTag at k
  simp only [decide_eq_false_iff_not] at k
  simp only [bne_iff_ne, tagE]
  split
  · rw [if_neg (by omega)]; omega
  · omega
theorem tag_no2 {h : Int} (k : isTag h = false) (h0 : 0 ≤ h) (e : (tagE (h / 256 % 16777216) (h % 256 - 1) != 0) = false) : (tagV (h / 256 % 16777216) (h % 256 - 1) != h) = true := by
  unfold isTag at k
  simp only [decide_eq_false_iff_not] at k
  simp only [bne_iff_ne, bne_eq_false_iff_eq, ne_eq, tagE, tagV] at *
  split at e
  · split at e
    · rw [if_pos (by omega)]; omega
    · omega
  · omega
def isLease (h : Int) : Bool := decide (1 ≤ h / 4294967296 ∧ h / 4294967296 ≤ 59 ∧ h / 4294967296 % 2 = 1)
def leaseI (h : Int) : Int := if isLease h then h / 4294967296 else 0
def leaseU (h : Int) : Int := if isLease h then h % 4294967296 else 0
theorem lease_yes {h : Int} (k : isLease h = true) : (leaseE (h / 4294967296) (h % 4294967296) != 0) = false ∧ (leaseV (h / 4294967296) (h % 4294967296) != h) = false := by
  unfold isLease at k
  simp only [decide_eq_true_eq] at k
  simp only [bne_eq_false_iff_eq, leaseE, leaseV]
  rw [if_pos k, if_pos (by omega), if_pos (by omega)]
  omega
theorem lease_no {h : Int} (k : isLease h = false) (h0 : 0 ≤ h) : (leaseE (h / 4294967296) (h % 4294967296) != 0) = true := by
  unfold isLease at k
  simp only [decide_eq_false_iff_not] at k
  simp only [bne_iff_ne, leaseE]
  rw [if_neg (by omega)]; omega
theorem isLease_inc (h : Int) : isInc (h / 4294967296) = isLease h := rfl
def isBallot (h : Int) : Bool := decide ((1 ≤ h / 8 ∧ h / 8 ≤ 500) ∧ 1 ≤ h % 8 ∧ h % 8 ≤ 6)
def ballotR (h : Int) : Int := if isBallot h then h / 8 else 0
def ballotC (h : Int) : Int := if isBallot h then h % 8 - 1 else 0
theorem ballot_yes {h : Int} (k : isBallot h = true) : (ballotE (h / 8) (h % 8 - 1) != 0) = false ∧ (ballotV (h / 8) (h % 8 - 1) != h) = false ∧ h ≤ 4095 := by
  unfold isBallot at k
  simp only [decide_eq_true_eq] at k
  simp only [bne_eq_false_iff_eq, ballotE, ballotV]
  rw [if_pos k.1, if_pos (by omega), if_pos (by omega)]
  omega
theorem ballot_no {h : Int} (k : isBallot h = false) (h0 : 0 ≤ h) : (ballotE (h / 8) (h % 8 - 1) != 0) = true := by
  unfold isBallot at k
  simp only [decide_eq_false_iff_not] at k
  simp only [bne_iff_ne, ballotE]
  split
  · rw [if_neg (by omega)]; omega
  · omega
end Go.Proofs.Ytdodigfojbijfaa.Wc
