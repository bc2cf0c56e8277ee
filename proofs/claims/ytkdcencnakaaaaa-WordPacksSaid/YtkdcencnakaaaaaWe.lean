/-
  What is packed is split into the same parts: plain facts on the numbers.
-/
import Derived.Test.YtkdcencnakaaaaaWd
namespace Go.Proofs.Ytkdcencnakaaaaa.We
open Go.RowKit Wa Wb Wc Wd

theorem key_back (n : Int) (b : Bool) (h0 : 0 ≤ n) (h1 : n ≤ 15) : keyE n = 0 ∧ 0 ≤ keyV n b ∧ keyV n b < 64 ∧ keyV n b / 2 = n ∧ (keyV n b % 2 == 1) = b := by
  unfold keyE keyV
  rw [if_pos (by omega), if_pos (by omega)]
  cases b
  · simp; omega
  · simp; omega
theorem mark_back (s : Int) (h0 : 1 ≤ s) (h1 : s ≤ 1073741823) : markE s = 0 ∧ 0 ≤ markV s ∧ markV s < 4294967296 ∧ splitMarkV (markV s) = s ∧ splitMarkB (markV s) = true := by
  unfold markE splitMarkB splitMarkV markV
  rw [if_pos (by omega), if_pos (by omega), if_pos (by omega)]
  refine ⟨rfl, by omega, by omega, by omega, ?_⟩
  simp only [decide_eq_true_eq]
  omega
theorem mark_same (s t : Int) (h0 : 1 ≤ s) (h1 : s ≤ 1073741823) (g0 : 1 ≤ t) (g1 : t ≤ 1073741823) : (markV t == markV s) = (t == s) := by
  unfold markV
  rw [if_pos (by omega), if_pos (by omega), Bool.eq_iff_iff]
  simp
  omega
theorem tag_back (i c : Int) (h0 : 1 ≤ i) (h1 : i ≤ 59) (h2 : i % 2 = 1) (c0 : 0 ≤ c) (c1 : c ≤ 5) :
    tagE i c = 0 ∧ 0 ≤ tagV i c ∧ tagV i c < 65536 ∧ tagI (tagV i c) = i ∧ tagC (tagV i c) = c ∧ isTag (tagV i c) = true := by
  have e : tagV i c = i * 256 + (c + 1) := by rw [tagV, if_pos (by omega)]
  have k : isTag (tagV i c) = true := by
    rw [e]
    simp only [isTag, decide_eq_true_eq]
    omega
  refine ⟨by rw [tagE, if_pos (by omega), if_pos (by omega)], by omega, by omega, by rw [tagI, if_pos k]; omega, by rw [tagC, if_pos k]; omega, k⟩
theorem lease_back (i u : Int) (h0 : 1 ≤ i) (h1 : i ≤ 59) (h2 : i % 2 = 1) (c0 : 0 ≤ u) (c1 : u ≤ 4294967295) :
    leaseE i u = 0 ∧ 0 ≤ leaseV i u ∧ leaseV i u < 18446744073709551616 ∧ leaseI (leaseV i u) = i ∧ leaseU (leaseV i u) = u ∧ isLease (leaseV i u) = true := by
  have e : leaseV i u = i * 4294967296 + u := by rw [leaseV, if_pos (by omega)]
  have k : isLease (leaseV i u) = true := by
    rw [e]
    simp only [isLease, decide_eq_true_eq]
    omega
  refine ⟨by rw [leaseE, if_pos (by omega), if_pos (by omega)], by omega, by omega, by rw [leaseI, if_pos k]; omega, by rw [leaseU, if_pos k]; omega, k⟩
theorem ballot_back (r c : Int) (h0 : 1 ≤ r) (h1 : r ≤ 500) (c0 : 0 ≤ c) (c1 : c ≤ 5) :
    ballotE r c = 0 ∧ 0 ≤ ballotV r c ∧ ballotV r c < 4096 ∧ ballotR (ballotV r c) = r ∧ ballotC (ballotV r c) = c ∧ isBallot (ballotV r c) = true := by
  have e : ballotV r c = r * 8 + (c + 1) := by rw [ballotV, if_pos (by omega)]
  have k : isBallot (ballotV r c) = true := by
    rw [e]
    simp only [isBallot, decide_eq_true_eq]
    omega
  refine ⟨by rw [ballotE, if_pos (by omega), if_pos (by omega)], by omega, by omega, by rw [ballotR, if_pos k]; omega, by rw [ballotC, if_pos k]; omega, k⟩
end Go.Proofs.Ytkdcencnakaaaaa.We
