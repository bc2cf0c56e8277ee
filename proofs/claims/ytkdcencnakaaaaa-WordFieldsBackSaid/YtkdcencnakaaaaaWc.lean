/-
  Contracts of the functions of packages word and bodegaref1 that split words, and of Field, SetField, Pick and awake.
-/
import Derived.Test.YtkdcencnakaaaaaWb
namespace Go.Proofs.Ytkdcencnakaaaaa.Wc
open Go.ChangeShapes Go.WideShapes Go.ChangeAt Go.RowKit Wa Wb
set_option linter.unusedVariables false
set_option linter.unusedSimpArgs false

theorem splitHeader_any (h : Int) (w : World) (h0 : 0 ≤ h) (h1 : h < 18446744073709551616) :
    Calls Try.prog 19 #[.int .u64 h] w fun e w' => e = .returned (.tuple #[.int .u64 (h / 256), .int .i64 (h % 256)]) ∧ w = w' := by
  have ha := and255 h h0 h1
  go_enter Try.func19, Try.ntmps19
  go_wp2
  all_goals (go_ret2; refine ⟨ret_tup2 ?_ ?_, rfl⟩)
  all_goals try simp only [Bool.not_eq_true', Bool.not_eq_false', decide_eq_true_eq, decide_eq_false_iff_not, beq_iff_eq, beq_eq_false_iff_ne, ne_eq, bne_iff_ne] at *
  all_goals try simp only [IntKind.wrap_u64, wrap64, ] at *
  all_goals first | omega

theorem splitHeader_ref (h : Int) (w : World) (h0 : 0 ≤ h) (h1 : h < 18446744073709551616) :
    Calls Try.prog 20 #[.int .u64 h] w fun e w' => e = .returned (.tuple #[.int .u64 (h / 256), .int .i64 (h % 256)]) ∧ w = w' := by
  have ha := and255 h h0 h1
  go_enter Try.func20, Try.ntmps20
  go_wp2
  all_goals (go_ret2; refine ⟨ret_tup2 ?_ ?_, rfl⟩)
  all_goals try simp only [Bool.not_eq_true', Bool.not_eq_false', decide_eq_true_eq, decide_eq_false_iff_not, beq_iff_eq, beq_eq_false_iff_ne, ne_eq, bne_iff_ne] at *
  all_goals try simp only [IntKind.wrap_u64, wrap64, ] at *
  all_goals first | omega

theorem unlocked_any (h : Int) (w : World) (h0 : 0 ≤ h) (h1 : h < 18446744073709551616) :
    Calls Try.prog 25 #[.int .u64 h] w fun e w' => e = .returned (.bool (h % 256 == 0)) ∧ w = w' := by
  have ha := and255 h h0 h1
  go_enter Try.func25, Try.ntmps25
  go_wp2
  all_goals (go_ret; refine ⟨ret_bool ?_, rfl⟩)
  all_goals try simp only [Bool.not_eq_true', Bool.not_eq_false', decide_eq_true_eq, decide_eq_false_iff_not, beq_iff_eq, beq_eq_false_iff_ne, ne_eq, bne_iff_ne] at *
  all_goals try simp only [IntKind.wrap_u64, wrap64, ] at *
  all_goals first | done | rfl

theorem unlocked_ref (h : Int) (w : World) (h0 : 0 ≤ h) (h1 : h < 18446744073709551616) :
    Calls Try.prog 26 #[.int .u64 h] w fun e w' => e = .returned (.bool (h % 256 == 0)) ∧ w = w' := by
  have ha := and255 h h0 h1
  go_enter Try.func26, Try.ntmps26
  go_wp2
  all_goals (go_ret; refine ⟨ret_bool ?_, rfl⟩)
  all_goals try simp only [Bool.not_eq_true', Bool.not_eq_false', decide_eq_true_eq, decide_eq_false_iff_not, beq_iff_eq, beq_eq_false_iff_ne, ne_eq, bne_iff_ne] at *
  all_goals try simp only [IntKind.wrap_u64, wrap64, ] at *
  all_goals first | done | rfl

theorem splitKey_any (h : Int) (w : World) (h0 : 0 ≤ h) (h1 : h < 18446744073709551616) :
    Calls Try.prog 39 #[.int .u64 h] w fun e w' => e = .returned (.tuple #[.int .u64 (h / 2), .bool (h % 2 == 1)]) ∧ w = w' := by
  go_enter Try.func39, Try.ntmps39
  go_wp2
  all_goals (go_ret2; refine ⟨ret_tupb ?_ ?_, rfl⟩)
  all_goals try simp only [Bool.not_eq_true', Bool.not_eq_false', decide_eq_true_eq, decide_eq_false_iff_not, beq_iff_eq, beq_eq_false_iff_ne, ne_eq, bne_iff_ne] at *
  all_goals try simp only [IntKind.wrap_u64, wrap64, ] at *
  all_goals first | rfl | omega

def splitMarkV (h : Int) : Int := if h % 4 = 2 ∧ 4 ≤ h ∧ h < 4294967296 then h / 4 else 0
def splitMarkB (h : Int) : Bool := decide (h % 4 = 2 ∧ 4 ≤ h ∧ h < 4294967296)
theorem splitMark_any (h : Int) (w : World) (h0 : 0 ≤ h) (h1 : h < 18446744073709551616) :
    Calls Try.prog 40 #[.int .u64 h] w fun e w' => e = .returned (.tuple #[.int .i64 (splitMarkV h), .bool (splitMarkB h)]) ∧ w = w' := by
  have ha := and3 h h0 h1
  have ho : bits .or .u64 (h / 4 * 4) 2 = h / 4 * 4 + 2 := or_u64 2 4 (by decide) (by omega) (by omega) (by omega) (by omega) (by omega) (by omega)
  go_enter Try.func40, Try.ntmps40
  go_wp2
  all_goals (go_ret2; refine ⟨ret_tupb ?_ ?_, rfl⟩)
  all_goals try simp only [Bool.not_eq_true', Bool.not_eq_false', decide_eq_true_eq, decide_eq_false_iff_not, beq_iff_eq, beq_eq_false_iff_ne, ne_eq, bne_iff_ne, bne_eq_false_iff_eq] at *
  all_goals try simp only [IntKind.wrap_u64, wrap64, splitMarkV, splitMarkB] at *
  all_goals first | omega | (split <;> omega) | (symm; simp only [decide_eq_true_eq, decide_eq_false_iff_not]; omega)

theorem splitMark_ref (h : Int) (w : World) (h0 : 0 ≤ h) (h1 : h < 18446744073709551616) :
    Calls Try.prog 41 #[.int .u64 h] w fun e w' => e = .returned (.tuple #[.int .i64 (splitMarkV h), .bool (splitMarkB h)]) ∧ w = w' := by
  have ha := and3 h h0 h1
  have ho : bits .or .u64 (h / 4 * 4) 2 = h / 4 * 4 + 2 := or_u64 2 4 (by decide) (by omega) (by omega) (by omega) (by omega) (by omega) (by omega)
  go_enter Try.func41, Try.ntmps41
  go_wp2
  all_goals (go_ret2; refine ⟨ret_tupb ?_ ?_, rfl⟩)
  all_goals try simp only [Bool.not_eq_true', Bool.not_eq_false', decide_eq_true_eq, decide_eq_false_iff_not, beq_iff_eq, beq_eq_false_iff_ne, ne_eq, bne_iff_ne, bne_eq_false_iff_eq] at *
  all_goals try simp only [IntKind.wrap_u64, wrap64, splitMarkV, splitMarkB] at *
  all_goals first | omega | (split <;> omega) | (symm; simp only [decide_eq_true_eq, decide_eq_false_iff_not]; omega)

def isTag (h : Int) : Bool := decide ((1 ≤ h / 256 ∧ h / 256 ≤ 59 ∧ h / 256 % 2 = 1) ∧ 1 ≤ h % 256 ∧ h % 256 ≤ 6)
def tagI (h : Int) : Int := if isTag h then h / 256 else 0
def tagC (h : Int) : Int := if isTag h then h % 256 - 1 else 0
theorem tag_yes {h : Int} (k : isTag h = true) : (tagE (h / 256) (h % 256 - 1) != 0) = false ∧ (tagV (h / 256) (h % 256 - 1) != h) = false := by
  unfold isTag at k
  simp only [decide_eq_true_eq] at k
  simp only [bne_eq_false_iff_eq, tagE, tagV]
  rw [if_pos k.1, if_pos (by omega), if_pos (by omega)]
  omega
theorem tag_no {h : Int} (k : isTag h = false) (h0 : 0 ≤ h) : (tagE (h / 256) (h % 256 - 1) != 0) = true := by
  unfold isTag at k
  simp only [decide_eq_false_iff_not] at k
  simp only [bne_iff_ne, tagE]
  split
  · rw [if_neg (by omega)]; omega
  · omega
theorem tag_no2 {h : Int} (k : isTag h = false) (h0 : 0 ≤ h) (e : (tagE (h / 256 % 16777216) (h % 256 - 1) != 0) = false) : (tagV (h / 256 % 16777216) (h % 256 - 1) != h) = true := by
  unfold isTag at k
  simp only [decide_eq_false_iff_not] at k
  simp only [bne_iff_ne, bne_eq_false_iff_eq, ne_eq, tagE, tagV] at *
  split at e
  · split at e
    · rw [if_pos (by omega)]; omega
    · omega
  · omega
theorem splitTag_any (h : Int) (w : World) (h0 : 0 ≤ h) (h1 : h < 18446744073709551616) :
    Calls Try.prog 42 #[.int .u64 h] w fun e w' => e = .returned (.tuple #[.int .i64 (tagI h), .int .i64 (tagC h), .bool (isTag h)]) ∧ w = w' := by
  have ha := and255 h h0 h1
  by_cases k : isTag h = true
  · obtain ⟨e1, e2⟩ := tag_yes k
    go_enter Try.func42, Try.ntmps42
    go_wp2_with (first | (go_at_call 31; refine (tag_any _ _ _).mono ?_; rintro e w' ⟨rfl, rfl⟩) | (go_at_call 51; refine (low_any _ _ (by omega) (by omega)).mono ?_; rintro e w' ⟨rfl, rfl⟩))
    go_ret3
    exact ⟨by rw [tagI, tagC, if_pos k, if_pos k, k]; rfl, rfl⟩
  · have k' : isTag h = false := by simpa using k
    have e1 := tag_no k' h0
    go_enter Try.func42, Try.ntmps42
    go_wp2_with (first | (go_at_call 31; refine (tag_any _ _ _).mono ?_; rintro e w' ⟨rfl, rfl⟩) | (go_at_call 51; refine (low_any _ _ (by omega) (by omega)).mono ?_; rintro e w' ⟨rfl, rfl⟩))
    go_ret3
    exact ⟨by rw [tagI, tagC, if_neg k, if_neg k, k']; rfl, rfl⟩
theorem splitTag_ref (h : Int) (w : World) (h0 : 0 ≤ h) (h1 : h < 18446744073709551616) :
    Calls Try.prog 43 #[.int .u64 h] w fun e w' => e = .returned (.tuple #[.int .i64 (tagI h), .int .i64 (tagC h), .bool (isTag h)]) ∧ w = w' := by
  have ha := and255 h h0 h1
  have hb : bits .and .u64 (h / 256) 16777215 = h / 256 % 16777216 := and_u64 24 (by decide) (h / 256) (by omega) (by omega)
  by_cases k : isTag h = true
  · obtain ⟨e1, e2⟩ := tag_yes k
    have e3 : h / 256 % 16777216 = h / 256 := by
      simp only [isTag, decide_eq_true_eq] at k
      omega
    go_enter Try.func43, Try.ntmps43
    go_wp2_with (go_at_call 32; refine (tag_ref _ _ _).mono ?_; rintro e w' ⟨rfl, rfl⟩)
    go_ret3
    exact ⟨by rw [tagI, tagC, if_pos k, if_pos k, k]; rfl, rfl⟩
  · have k' : isTag h = false := by simpa using k
    by_cases e1 : (tagE (h / 256 % 16777216) (h % 256 - 1) != 0) = true
    · go_enter Try.func43, Try.ntmps43
      go_wp2_with (go_at_call 32; refine (tag_ref _ _ _).mono ?_; rintro e w' ⟨rfl, rfl⟩)
      go_ret3
      exact ⟨by rw [tagI, tagC, if_neg k, if_neg k, k']; rfl, rfl⟩
    · have e1 : (tagE (h / 256 % 16777216) (h % 256 - 1) != 0) = false := by simpa using e1
      have e2 := tag_no2 k' h0 e1
      go_enter Try.func43, Try.ntmps43
      go_wp2_with (go_at_call 32; refine (tag_ref _ _ _).mono ?_; rintro e w' ⟨rfl, rfl⟩)
      go_ret3
      exact ⟨by rw [tagI, tagC, if_neg k, if_neg k, k']; rfl, rfl⟩
def isLease (h : Int) : Bool := decide (1 ≤ h / 4294967296 ∧ h / 4294967296 ≤ 59 ∧ h / 4294967296 % 2 = 1)
def leaseI (h : Int) : Int := if isLease h then h / 4294967296 else 0
def leaseU (h : Int) : Int := if isLease h then h % 4294967296 else 0
theorem lease_yes {h : Int} (k : isLease h = true) : (leaseE (h / 4294967296) (h % 4294967296) != 0) = false ∧ (leaseV (h / 4294967296) (h % 4294967296) != h) = false := by
  unfold isLease at k
  simp only [decide_eq_true_eq] at k
  simp only [bne_eq_false_iff_eq, leaseE, leaseV]
  rw [if_pos k, if_pos (by omega), if_pos (by omega)]
  omega
theorem lease_no {h : Int} (k : isLease h = false) (h0 : 0 ≤ h) : (leaseE (h / 4294967296) (h % 4294967296) != 0) = true := by
  unfold isLease at k
  simp only [decide_eq_false_iff_not] at k
  simp only [bne_iff_ne, leaseE]
  rw [if_neg (by omega)]; omega
theorem splitLease_any (h : Int) (w : World) (h0 : 0 ≤ h) (h1 : h < 18446744073709551616) :
    Calls Try.prog 44 #[.int .u64 h] w fun e w' => e = .returned (.tuple #[.int .i64 (leaseI h), .int .i64 (leaseU h), .bool (isLease h)]) ∧ w = w' := by
  have ha := and32 h h0 h1
  by_cases k : isLease h = true
  · obtain ⟨e1, e2⟩ := lease_yes k
    go_enter Try.func44, Try.ntmps44
    go_wp2_with (first | (go_at_call 33; refine (lease_any _ _ _).mono ?_; rintro e w' ⟨rfl, rfl⟩) | (go_at_call 51; refine (low_any _ _ (by omega) (by omega)).mono ?_; rintro e w' ⟨rfl, rfl⟩))
    go_ret3
    exact ⟨by rw [leaseI, leaseU, if_pos k, if_pos k, k]; rfl, rfl⟩
  · have k' : isLease h = false := by simpa using k
    have e1 := lease_no k' h0
    go_enter Try.func44, Try.ntmps44
    go_wp2_with (first | (go_at_call 33; refine (lease_any _ _ _).mono ?_; rintro e w' ⟨rfl, rfl⟩) | (go_at_call 51; refine (low_any _ _ (by omega) (by omega)).mono ?_; rintro e w' ⟨rfl, rfl⟩))
    go_ret3
    exact ⟨by rw [leaseI, leaseU, if_neg k, if_neg k, k']; rfl, rfl⟩
theorem isLease_inc (h : Int) : isInc (h / 4294967296) = isLease h := rfl
theorem splitLease_ref (h : Int) (w : World) (h0 : 0 ≤ h) (h1 : h < 18446744073709551616) :
    Calls Try.prog 45 #[.int .u64 h] w fun e w' => e = .returned (.tuple #[.int .i64 (leaseI h), .int .i64 (leaseU h), .bool (isLease h)]) ∧ w = w' := by
  have ha := and32 h h0 h1
  by_cases k : isLease h = true
  · have e1 : isInc (h / 4294967296) = true := k
    go_enter Try.func45, Try.ntmps45
    go_wp2_with (go_at_call 58; refine (inc_any _ _).mono ?_; rintro e w' ⟨rfl, rfl⟩)
    go_ret3
    exact ⟨by rw [leaseI, leaseU, if_pos k, if_pos k, k]; rfl, rfl⟩
  · have k' : isLease h = false := by simpa using k
    have e1 : isInc (h / 4294967296) = false := k'
    go_enter Try.func45, Try.ntmps45
    go_wp2_with (go_at_call 58; refine (inc_any _ _).mono ?_; rintro e w' ⟨rfl, rfl⟩)
    go_ret3
    exact ⟨by rw [leaseI, leaseU, if_neg k, if_neg k, k']; rfl, rfl⟩

def isBallot (h : Int) : Bool := decide ((1 ≤ h / 8 ∧ h / 8 ≤ 500) ∧ 1 ≤ h % 8 ∧ h % 8 ≤ 6)
def ballotR (h : Int) : Int := if isBallot h then h / 8 else 0
def ballotC (h : Int) : Int := if isBallot h then h % 8 - 1 else 0
theorem ballot_yes {h : Int} (k : isBallot h = true) : (ballotE (h / 8) (h % 8 - 1) != 0) = false ∧ (ballotV (h / 8) (h % 8 - 1) != h) = false ∧ h ≤ 4095 := by
  unfold isBallot at k
  simp only [decide_eq_true_eq] at k
  simp only [bne_eq_false_iff_eq, ballotE, ballotV]
  rw [if_pos k.1, if_pos (by omega), if_pos (by omega)]
  omega
theorem ballot_no {h : Int} (k : isBallot h = false) (h0 : 0 ≤ h) : (ballotE (h / 8) (h % 8 - 1) != 0) = true := by
  unfold isBallot at k
  simp only [decide_eq_false_iff_not] at k
  simp only [bne_iff_ne, ballotE]
  split
  · rw [if_neg (by omega)]; omega
  · omega
theorem splitBallot_any (h : Int) (w : World) (h0 : 0 ≤ h) (h1 : h < 18446744073709551616) :
    Calls Try.prog 46 #[.int .u64 h] w fun e w' => e = .returned (.tuple #[.int .i64 (ballotR h), .int .i64 (ballotC h), .bool (isBallot h)]) ∧ w = w' := by
  have ha := and7 h h0 h1
  by_cases k : isBallot h = true
  · obtain ⟨e1, e2, e3⟩ := ballot_yes k
    go_enter Try.func46, Try.ntmps46
    go_wp2_with (first | (go_at_call 35; refine (ballot_any _ _ _).mono ?_; rintro e w' ⟨rfl, rfl⟩) | (go_at_call 51; refine (low_any _ _ (by omega) (by omega)).mono ?_; rintro e w' ⟨rfl, rfl⟩))
    go_ret3
    exact ⟨by rw [ballotR, ballotC, if_pos k, if_pos k, k]; rfl, rfl⟩
  · have k' : isBallot h = false := by simpa using k
    have e1 := ballot_no k' h0
    go_enter Try.func46, Try.ntmps46
    go_wp2_with (first | (go_at_call 35; refine (ballot_any _ _ _).mono ?_; rintro e w' ⟨rfl, rfl⟩) | (go_at_call 51; refine (low_any _ _ (by omega) (by omega)).mono ?_; rintro e w' ⟨rfl, rfl⟩))
    go_ret3
    exact ⟨by rw [ballotR, ballotC, if_neg k, if_neg k, k']; rfl, rfl⟩
theorem splitBallot_ref (h : Int) (w : World) (h0 : 0 ≤ h) (h1 : h < 18446744073709551616) :
    Calls Try.prog 47 #[.int .u64 h] w fun e w' => e = .returned (.tuple #[.int .i64 (ballotR h), .int .i64 (ballotC h), .bool (isBallot h)]) ∧ w = w' := by
  by_cases k : isBallot h = true
  · obtain ⟨e1, e2, e3⟩ := ballot_yes k
    go_enter Try.func47, Try.ntmps47
    go_wp2_with (go_at_call 36; refine (ballot_ref _ _ _).mono ?_; rintro e w' ⟨rfl, rfl⟩)
    go_ret3
    exact ⟨by rw [ballotR, ballotC, if_pos k, if_pos k, k]; rfl, rfl⟩
  · have k' : isBallot h = false := by simpa using k
    have e1 := ballot_no k' h0
    by_cases e3 : 4095 < h
    · go_enter Try.func47, Try.ntmps47
      go_wp2_with (go_at_call 36; refine (ballot_ref _ _ _).mono ?_; rintro e w' ⟨rfl, rfl⟩)
      go_ret3
      exact ⟨by rw [ballotR, ballotC, if_neg k, if_neg k, k']; rfl, rfl⟩
    · have e4 : h ≤ 4095 := by omega
      clear e3
      go_enter Try.func47, Try.ntmps47
      go_wp2_with (go_at_call 36; refine (ballot_ref _ _ _).mono ?_; rintro e w' ⟨rfl, rfl⟩)
      go_ret3
      exact ⟨by rw [ballotR, ballotC, if_neg k, if_neg k, k']; rfl, rfl⟩
theorem splitCons_any (h : Int) (w : World) (h0 : 0 ≤ h) (h1 : h < 18446744073709551616) :
    Calls Try.prog 48 #[.int .u64 h] w fun e w' => e = .returned (.tuple #[.int .u64 (h / 4503599627370496), .int .u64 (h / 1099511627776 % 4096), .int .u64 (h % 1099511627776)]) ∧ w = w' := by
  have ha := and40 h h0 h1
  have hb := and4095 (h / 1099511627776) (by omega) (by omega)
  go_enter Try.func48, Try.ntmps48
  go_wp2
  all_goals (go_ret3; refine ⟨ret_tup3 ?_ ?_ ?_, rfl⟩)
  all_goals try simp only [Bool.not_eq_true', Bool.not_eq_false', decide_eq_true_eq, decide_eq_false_iff_not, beq_iff_eq, beq_eq_false_iff_ne, ne_eq, bne_iff_ne, bne_eq_false_iff_eq, bne_eq_false_iff_eq] at *
  all_goals try simp only [IntKind.wrap_u64, wrap64, ] at *
  all_goals first | omega

theorem splitCons_ref (h : Int) (w : World) (h0 : 0 ≤ h) (h1 : h < 18446744073709551616) :
    Calls Try.prog 49 #[.int .u64 h] w fun e w' => e = .returned (.tuple #[.int .u64 (h / 4503599627370496), .int .u64 (h / 1099511627776 % 4096), .int .u64 (h % 1099511627776)]) ∧ w = w' := by
  have ha := and40 h h0 h1
  have hb := and4095 (h / 1099511627776) (by omega) (by omega)
  go_enter Try.func49, Try.ntmps49
  go_wp2
  all_goals (go_ret3; refine ⟨ret_tup3 ?_ ?_ ?_, rfl⟩)
  all_goals try simp only [Bool.not_eq_true', Bool.not_eq_false', decide_eq_true_eq, decide_eq_false_iff_not, beq_iff_eq, beq_eq_false_iff_ne, ne_eq, bne_iff_ne, bne_eq_false_iff_eq, bne_eq_false_iff_eq] at *
  all_goals try simp only [IntKind.wrap_u64, wrap64, ] at *
  all_goals first | omega

end Go.Proofs.Ytkdcencnakaaaaa.Wc
