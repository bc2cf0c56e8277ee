/-
  A field that was set is read back, the other bits stay: plain facts on the numbers.
-/
import Derived.Test.YtkdcencnakaaaaaWe
namespace Go.Proofs.Ytkdcencnakaaaaa.Wf
open Go.RowKit Wa Wb Wc Wd

def setN (X a n V : Nat) : Nat := X / 2 ^ (a + n) * 2 ^ (a + n) + V * 2 ^ a + X % 2 ^ a

theorem mid_lt {a n V l : Nat} (hV : V < 2 ^ n) (hl : l < 2 ^ a) : V * 2 ^ a + l < 2 ^ (a + n) := by
  have : (V + 1) * 2 ^ a ≤ 2 ^ n * 2 ^ a := Nat.mul_le_mul_right _ hV
  rw [Nat.pow_add, Nat.mul_comm (2 ^ a)]
  rw [Nat.add_mul] at this
  omega

theorem setN_bit (X a n V j : Nat) (hV : V < 2 ^ n) : (setN X a n V).testBit j = if j < a then X.testBit j else if j < a + n then V.testBit (j - a) else X.testBit j := by
  have hl : X % 2 ^ a < 2 ^ a := Nat.mod_lt _ (Nat.two_pow_pos a)
  have hm := mid_lt hV hl
  rw [setN, Nat.add_assoc, Nat.mul_comm (X / 2 ^ (a + n)), Nat.testBit_two_pow_mul_add _ hm, Nat.mul_comm V, Nat.testBit_two_pow_mul_add _ hl, Nat.testBit_mod_two_pow, Nat.testBit_div_two_pow]
  by_cases c1 : j < a
  · have c2 : j < a + n := by omega
    simp [c1, c2]
  · by_cases c2 : j < a + n
    · simp [c1, c2]
    · have c3 : j - (a + n) + (a + n) = j := by omega
      simp [c1, c2, c3]

theorem bit_same {x y o : Nat} (h : x.testBit o = y.testBit o) : x / 2 ^ o % 2 = y / 2 ^ o % 2 := by
  rw [Nat.testBit_eq_decide_div_mod_eq, Nat.testBit_eq_decide_div_mod_eq] at h
  have h1 := Nat.mod_two_eq_zero_or_one (x / 2 ^ o)
  have h2 := Nat.mod_two_eq_zero_or_one (y / 2 ^ o)
  rcases h1 with h1 | h1 <;> rcases h2 with h2 | h2 <;> simp_all

theorem setN_other (X a n V o : Nat) (hV : V < 2 ^ n) (h : o < a ∨ a + n ≤ o) : setN X a n V / 2 ^ o % 2 = X / 2 ^ o % 2 := by
  apply bit_same
  rw [setN_bit X a n V o hV]
  rcases h with h | h
  · rw [if_pos h]
  · rw [if_neg (by omega), if_neg (by omega)]

theorem setN_field (X a n V : Nat) (hV : V < 2 ^ n) : setN X a n V / 2 ^ a % 2 ^ n = V := by
  apply Nat.eq_of_testBit_eq
  intro k
  rw [Nat.testBit_mod_two_pow, Nat.testBit_div_two_pow, setN_bit X a n V _ hV]
  by_cases c : k < n
  · have c1 : ¬ k + a < a := by omega
    have c2 : k + a < a + n := by omega
    have c3 : k + a - a = k := by omega
    simp [c, c1, c2, c3]
  · have c4 : V.testBit k = false := Nat.testBit_lt_two_pow (Nat.lt_of_lt_of_le hV (Nat.pow_le_pow_right (by decide) (by omega)))
    simp [c, c4]

theorem setN_back (X a n V : Nat) (hV : V < 2 ^ n) : setN (setN X a n V) a n (X / 2 ^ a % 2 ^ n) = X := by
  have hm : X / 2 ^ a % 2 ^ n < 2 ^ n := Nat.mod_lt _ (Nat.two_pow_pos n)
  apply Nat.eq_of_testBit_eq
  intro k
  rw [setN_bit _ a n _ k hm, setN_bit X a n V k hV, Nat.testBit_mod_two_pow, Nat.testBit_div_two_pow]
  by_cases c1 : k < a
  · simp [c1]
  · by_cases c2 : k < a + n
    · have c3 : k - a < n := by omega
      have c4 : k - a + a = k := by omega
      simp [c1, c2, c3, c4]
    · simp [c1, c2]

theorem setN_lt (X a n V : Nat) (hX : X < 18446744073709551616) (h : a + n ≤ 64) (hV : V < 2 ^ n) : setN X a n V < 18446744073709551616 := by
  have hx : X < 2 ^ 64 := hX
  have : setN X a n V < 2 ^ 64 := by
    apply Nat.lt_pow_two_of_testBit
    intro j hj
    rw [setN_bit X a n V j hV, if_neg (by omega), if_neg (by omega)]
    exact Nat.testBit_lt_two_pow (Nat.lt_of_lt_of_le hx (Nat.pow_le_pow_right (by decide) hj))
  omega

theorem setV_nat (X V : Nat) {a n : Int} (h : 1 ≤ n ∧ n ≤ 64 ∧ 0 ≤ a ∧ a ≤ 64 - n) (hV : V < 2 ^ n.toNat) : setV (X : Int) a n (V : Int) = ((setN X a.toNat n.toNat V : Nat) : Int) ∧ setE a n (V : Int) = 0 := by
  have pj := Nat.two_pow_pos n.toNat
  have cj : ((2 : Int) ^ n.toNat) = ((2 ^ n.toNat : Nat) : Int) := by simp
  have hle : (V : Int) ≤ 2 ^ n.toNat - 1 := by rw [cj]; omega
  rw [setV, setE, if_pos h, if_pos h, if_pos hle, if_pos hle]
  simp [setN]
theorem fieldV_nat (X : Nat) {a n : Int} (h : 1 ≤ n ∧ n ≤ 64 ∧ 0 ≤ a ∧ a ≤ 64 - n) : fieldV (X : Int) a n = ((X / 2 ^ a.toNat % 2 ^ n.toNat : Nat) : Int) ∧ fieldE a n = 0 := by
  rw [fieldV, fieldE, if_pos h, if_pos h]
  simp

theorem set_facts {x a n v : Int} (h0 : 0 ≤ x) (h1 : x < 18446744073709551616) (h : 1 ≤ n ∧ n ≤ 64 ∧ 0 ≤ a ∧ a ≤ 64 - n) (v0 : 0 ≤ v) (hv : v ≤ 2 ^ n.toNat - 1) :
    setE a n v = 0 ∧ fieldE a n = 0 ∧ fieldV (setV x a n v) a n = v ∧ 0 ≤ setV x a n v ∧ setV x a n v < 18446744073709551616 ∧ 0 ≤ fieldV x a n ∧ setV (setV x a n v) a n (fieldV x a n) = x ∧ setE a n (fieldV x a n) = 0 := by
  obtain ⟨X, rfl⟩ := Int.eq_ofNat_of_zero_le h0
  obtain ⟨V, rfl⟩ := Int.eq_ofNat_of_zero_le v0
  have cj : ((2 : Int) ^ n.toNat) = ((2 ^ n.toNat : Nat) : Int) := by simp
  have hV : V < 2 ^ n.toNat := by rw [cj] at hv; omega
  obtain ⟨e1, e2⟩ := setV_nat X V h hV
  obtain ⟨e3, e4⟩ := fieldV_nat X h
  have hm : X / 2 ^ a.toNat % 2 ^ n.toNat < 2 ^ n.toNat := Nat.mod_lt _ (Nat.two_pow_pos _)
  obtain ⟨e5, e6⟩ := setV_nat (setN X a.toNat n.toNat V) (X / 2 ^ a.toNat % 2 ^ n.toNat) h hm
  have hlt := setN_lt X a.toNat n.toNat V (by omega) (by omega) hV
  refine ⟨e2, e4, ?_, ?_, ?_, ?_, ?_, ?_⟩
  · rw [e1, (fieldV_nat _ h).1, setN_field X _ _ V hV]
  · rw [e1]; omega
  · rw [e1]; omega
  · rw [e3]; omega
  · rw [e1, e3, e5, setN_back X _ _ V hV]
  · rw [e3]; exact e6

theorem set_other {x a n v o : Int} (h0 : 0 ≤ x) (h : 1 ≤ n ∧ n ≤ 64 ∧ 0 ≤ a ∧ a ≤ 64 - n) (v0 : 0 ≤ v) (hv : v ≤ 2 ^ n.toNat - 1) (o0 : 0 ≤ o) (o1 : o ≤ 63) (ho : o < a ∨ a + n ≤ o) :
    (fieldV x o 1 != fieldV (setV x a n v) o 1) = false := by
  obtain ⟨X, rfl⟩ := Int.eq_ofNat_of_zero_le h0
  obtain ⟨V, rfl⟩ := Int.eq_ofNat_of_zero_le v0
  have cj : ((2 : Int) ^ n.toNat) = ((2 ^ n.toNat : Nat) : Int) := by simp
  have hV : V < 2 ^ n.toNat := by rw [cj] at hv; omega
  have k : (1 : Int) ≤ 1 ∧ (1 : Int) ≤ 64 ∧ 0 ≤ o ∧ o ≤ 64 - 1 := by omega
  rw [(setV_nat X V h hV).1, (fieldV_nat X k).1, (fieldV_nat _ k).1]
  have := setN_other X a.toNat n.toNat V o.toNat hV (by omega)
  rw [show (2 : Nat) ^ (1 : Int).toNat = 2 from rfl, this]
  exact bne_self_eq_false _
end Go.Proofs.Ytkdcencnakaaaaa.Wf
