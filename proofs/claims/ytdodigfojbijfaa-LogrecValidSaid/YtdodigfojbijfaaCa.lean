/-
  Contracts of package crc's step and table.
-/
import Derived.Test.YtdodigfojbijfaaGa
import Derived.Test.YtdodigfojbijfaaMa
namespace Go.Proofs.Ytdodigfojbijfaa.Ca
open Go.ChangeShapes Go.WideShapes Go.ChangeAt Go.RowKit Ga Ma
set_option linter.unusedVariables false
set_option linter.unusedSimpArgs false
set_option maxRecDepth 10000

theorem bit_ (r : Nat) (h : r < 18446744073709551616) : bits .and .u64 (r : Int) 1 = ((r % 2 : Nat) : Int) := by
  have := u64_and_nat r 1 h (by decide)
  rw [nat_mask1] at this
  exact this
theorem xor_ (a b : Nat) (ha : a < 18446744073709551616) (hb : b < 18446744073709551616) : bits .xor .u64 (a : Int) (b : Int) = ((a ^^^ b : Nat) : Int) := u64_xor_nat a b ha hb
theorem one_yes (r : Nat) (h : r < 18446744073709551616) (hb : (bits .and .u64 (r : Int) 1 == 1) = true) : bits .xor .u64 ((r : Int) / 2) 14514072000185962306 = ((one r : Nat) : Int) := by
  rw [bit_ r h] at hb
  have hr : r % 2 = 1 := by simp at hb; omega
  have e : ((r : Int) / 2) = ((r / 2 : Nat) : Int) := by omega
  rw [e, one, if_pos hr]
  exact xor_ _ _ (by omega) (by decide)
theorem one_no (r : Nat) (h : r < 18446744073709551616) (hb : (bits .and .u64 (r : Int) 1 == 1) = false) : ((r : Int) / 2) = ((one r : Nat) : Int) := by
  rw [bit_ r h] at hb
  have hr : ¬ r % 2 = 1 := by simp at hb; omega
  rw [one, if_neg hr]; omega

theorem step_any (r : Nat) (w : World) (h : r < 18446744073709551616) :
    Calls Try.prog 66 #[.int .u64 r] w fun e w' => e = .returned (.int .u64 ((one r : Nat) : Int)) ∧ w = w' := by
  go_enter Try.func66, Try.ntmps66
  go_wp2
  · have hb : (bits .and .u64 (r : Int) 1 == 1) = true := by assumption
    go_ret
    exact ⟨ret_int (one_yes r h hb), rfl⟩
  · have hb : (bits .and .u64 (r : Int) 1 == 1) = false := by assumption
    go_ret
    exact ⟨ret_int (one_no r h hb), rfl⟩

theorem shift_any (g : Nat) (r : Nat) (w : World) (h : r < 18446744073709551616) (v : Nat) (hv : v < 18446744073709551616)
    (hc : w.cell? ⟨g, r % 256, none⟩ = some (.int .u64 v)) :
    Calls Try.prog 58 #[.pointer (some ⟨g, 0, none⟩), .int .u64 r] w fun e w' => e = .returned (.int .u64 ((r / 256 ^^^ v : Nat) : Int)) ∧ w = w' := by
  go_enter Try.func58, Try.ntmps58
  go_wp2
  go_ret
  refine ⟨ret_int ?_, rfl⟩
  have e : ((r : Int) / 256) = ((r / 256 : Nat) : Int) := by omega
  rw [e]
  exact xor_ _ _ (by omega) hv

/-! The table as an array. -/
def zeros : Array Value := Array.replicate 256 (.int .u64 0)
def cellT (i : Nat) : Value := .int .u64 ((tab i : Nat) : Int)
def tabV : Array Value := Array.ofFn (n := 256) fun i => cellT i
def Fill (cs : Array Value) (p : Nat → Prop) : Prop := cs.size = 256 ∧ (∀ i, i < 256 → p i → cs[i]? = some (cellT i)) ∧ cs.all (·.oneCell') = true
/-- What is right within round k: the multiples of 2 * d, and the multiples of d below r. -/
def Done (d r : Nat) (i : Nat) : Prop := i % (2 * d) = 0 ∨ (i % d = 0 ∧ i < r)
def Half (k d : Nat) : Prop := k ≤ 7 ∧ d = 2 ^ (7 - k)
theorem Half.cases {k d : Nat} (h : Half k d) : (k = 0 ∧ d = 128) ∨ (k = 1 ∧ d = 64) ∨ (k = 2 ∧ d = 32) ∨ (k = 3 ∧ d = 16) ∨ (k = 4 ∧ d = 8) ∨ (k = 5 ∧ d = 4) ∨ (k = 6 ∧ d = 2) ∨ (k = 7 ∧ d = 1) := by
  obtain ⟨h1, rfl⟩ := h
  match k, h1 with
  | 0, _ => simp
  | 1, _ => simp
  | 2, _ => simp
  | 3, _ => simp
  | 4, _ => simp
  | 5, _ => simp
  | 6, _ => simp
  | 7, _ => simp
theorem Fill.start : Fill zeros (Done 128 0) := by
  refine ⟨by simp [zeros], fun i hi hp => ?_, by rw [Array.all_eq_true_iff_forall_mem]; intro v hv; rw [zeros, Array.mem_replicate] at hv; rw [hv.2]; rfl⟩
  have h0 : i = 0 := by unfold Done at hp; omega
  subst h0
  simp [zeros, cellT, tab, steps_zero]
theorem Fill.room {cs : Array Value} {k d r : Nat} (hk : Half k d) (h : Fill cs (Done d r)) (hm : r % (2 * d) = 0) (hr : r < 256) :
    cs[r]? = some (cellT r) ∧ (∃ v, cs[d + r]? = some v) ∧ d + r < 256 ∧ r + 2 * d ≤ 256 ∧ (r + 2 * d) % (2 * d) = 0 := by
  refine ⟨h.2.1 r hr (.inl hm), ?_, ?_, ?_, ?_⟩
  · have : d + r < cs.size := by rw [h.1]; rcases hk.cases with h | h | h | h | h | h | h | h <;> (obtain ⟨rfl, rfl⟩ := h; omega)
    exact ⟨_, Array.getElem?_eq_getElem this⟩
  all_goals (rcases hk.cases with h | h | h | h | h | h | h | h <;> (obtain ⟨rfl, rfl⟩ := h; omega))
theorem Fill.more {cs : Array Value} {k d r : Nat} (hk : Half k d) (h : Fill cs (Done d r)) (hm : r % (2 * d) = 0) (hr : r < 256) :
    Fill (cs.setIfInBounds (d + r) (cellT (d + r))) (Done d (r + 2 * d)) := by
  refine ⟨by simp [h.1], fun i hi hp => ?_, ?_⟩
  · rw [Array.getElem?_setIfInBounds]
    by_cases e : d + r = i
    · rw [if_pos e, if_pos (by rw [h.1, e]; exact hi), e]
    · rw [if_neg e]
      refine h.2.1 i hi ?_
      unfold Done at hp ⊢
      rcases hk.cases with q | q | q | q | q | q | q | q <;> (obtain ⟨rfl, rfl⟩ := q; omega)
  · rw [Array.all_eq_true_iff_forall_mem]
    intro v hv
    rcases Array.mem_or_eq_of_mem_setIfInBounds hv with hv | rfl
    · exact (Array.all_eq_true_iff_forall_mem.1 h.2.2) v hv
    · rfl
theorem Fill.next {cs : Array Value} {k d r : Nat} (hk : Half k d) (h : Fill cs (Done d r)) (hr : 256 ≤ r) (h7 : k < 7) : Fill cs (Done (d / 2) 0) ∧ Half (k + 1) (d / 2) := by
  refine ⟨⟨h.1, fun i hi hp => h.2.1 i hi ?_, h.2.2⟩, ?_⟩
  · unfold Done at hp ⊢
    rcases hk.cases with q | q | q | q | q | q | q | q <;> (obtain ⟨rfl, rfl⟩ := q; omega)
  · obtain ⟨h1, rfl⟩ := hk
    refine ⟨by omega, ?_⟩
    have e : 7 - k = (7 - (k + 1)) + 1 := by omega
    rw [e, Nat.pow_succ]; omega
theorem Fill.last {cs : Array Value} {k d r : Nat} (hk : Half k d) (h : Fill cs (Done d r)) (hr : 256 ≤ r) (h7 : ¬ k < 7) : cs = tabV ∧ d = 1 := by
  have h1 : k = 7 ∧ d = 1 := by rcases hk.cases with q | q | q | q | q | q | q | q <;> omega
  obtain ⟨rfl, rfl⟩ := h1
  refine ⟨?_, rfl⟩
  apply Array.ext_getElem?
  intro i
  rcases Nat.lt_or_ge i 256 with hi | hi
  · rw [h.2.1 i hi (by unfold Done; omega)]
    simp [tabV, hi]
  · rw [Array.getElem?_eq_none (by rw [h.1]; exact hi), Array.getElem?_eq_none (by simp [tabV]; exact hi)]
theorem Half.sum {k d r : Nat} (h : Half k d) (hm : r % (2 * d) = 0) : tab (d + r) = steps (k + 1) 1 ^^^ tab r := by
  obtain ⟨h1, rfl⟩ := h
  refine tab_sum k r h1 ?_
  have e : 8 - k = (7 - k) + 1 := by omega
  rw [e, Nat.pow_succ, Nat.mul_comm]; exact hm
theorem tabV_cell (i : Nat) (h : i < 256) : tabV[i]? = some (cellT i) := by simp [tabV, h]
theorem tabV_size : tabV.size = 256 := by simp [tabV]

theorem zero_table (w : World) : (zeroValue 83).run Try.prog w = .ok (.agg zeros) w := by kernel_rfl
end Go.Proofs.Ytdodigfojbijfaa.Ca
