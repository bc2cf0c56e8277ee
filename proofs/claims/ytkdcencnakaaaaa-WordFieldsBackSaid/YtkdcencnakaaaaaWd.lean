/-
  Contracts of Field, SetField, Pick and awake.
-/
import Derived.Test.YtkdcencnakaaaaaWc
namespace Go.Proofs.Ytkdcencnakaaaaa.Wd
open Go.ChangeShapes Go.WideShapes Go.ChangeAt Go.RowKit Wa Wb Wc
set_option linter.unusedVariables false
set_option linter.unusedSimpArgs false

theorem quiet_left {P : Program} {f : FuncId} {args : Array Value} {w : World} {n : Nat} {v : Value}
    (h : Calls P f args (w.drewN n) fun e w' => e = .returned v ∧ w.drewN n = w') : Calls P f args (w.drewN n) fun e w'' => e = .returned v ∧ ∃ m, w'' = w.drewN m :=
  h.mono fun _ _ ⟨he, hm⟩ => ⟨he, n, hm.symm⟩

def pickV (n k : Int) : Int := if k < 1 then 0 else n % k
theorem pick_num (n k : Int) (h : 1 ≤ k) (k1 : k ≤ 4294967296) : (wrap64 (n.tmod k + k)).tmod k = n % k := by
  have hm := Int.emod_nonneg n (show k ≠ 0 by omega)
  have hl := Int.emod_lt_of_pos n (show 0 < k by omega)
  have hk : (k.natAbs : Int) = k := by omega
  have ht : n.tmod k = n % k ∨ n.tmod k = n % k - k := by
    rw [Int.tmod_eq_emod]
    split
    · left; omega
    · right; omega
  generalize hmm : n % k = m at *
  rcases ht with ht | ht
  · rw [ht, show wrap64 (m + k) = m + k from by unfold wrap64; omega, Int.tmod_eq_emod_of_nonneg (by omega), Int.add_emod_right, ← hmm, Int.emod_emod]
  · rw [ht, show wrap64 (m - k + k) = m from by unfold wrap64; omega, Int.tmod_eq_emod_of_nonneg (by omega), ← hmm, Int.emod_emod]
theorem pick_any (n k : Int) (w : World) (k1 : k ≤ 4294967296) (n0 : -9223372036854775808 ≤ n) (n1 : n ≤ 9223372036854775807) (k0 : -9223372036854775808 ≤ k) :
    Calls Try.prog 16 #[.int .i64 n, .int .i64 k] w fun e w' => e = .returned (.int .i64 (pickV n k)) ∧ w = w' := by
  by_cases h : k < 1
  · go_enter Try.func16, Try.ntmps16
    go_wp2
    go_ret
    exact ⟨by rw [pickV, if_pos h]; rfl, rfl⟩
  · have h' : 1 ≤ k := by omega
    go_enter Try.func16, Try.ntmps16
    go_wp2
    go_ret
    refine ⟨?_, rfl⟩
    simp
    rw [pick_num n k h' k1, pickV, if_neg (by omega)]
theorem pickV_range (n k : Int) (h : 1 ≤ k) : 0 ≤ pickV n k ∧ pickV n k ≤ k - 1 := by
  unfold pickV
  rw [if_neg (by omega)]
  have hm := Int.emod_nonneg n (show k ≠ 0 by omega)
  have hl := Int.emod_lt_of_pos n (show 0 < k by omega)
  omega

theorem awake_any (w : World) :
    Calls Try.prog 15 #[] w fun e w' => e = .returned (.bool true) ∧ w = w' := by
  have a1 : headerV 1 0 = 256 := by decide
  have a2 : headerE 1 0 = 0 := by decide
  have b1 : lockV 256 2 = 259 := by decide
  have b2 : lockE 256 2 = 0 := by decide
  have c1 : nextV 259 = 512 := by decide
  have c2 : nextE 259 = 0 := by decide
  have d1 : keyV 3 true = 7 := by decide
  have d2 : keyE 3 = 0 := by decide
  have e1 : markV 5 = 22 := by decide
  have e2 : markE 5 = 0 := by decide
  have f1 : tagV 1 0 = 257 := by decide
  have f2 : tagE 1 0 = 0 := by decide
  have g1 : ballotV 1 0 = 9 := by decide
  have g2 : ballotE 1 0 = 0 := by decide
  go_enter Try.func15, Try.ntmps15
  go_wp2_with (first
    | (go_at_call 17; refine (header_any _ _ _ (by decide)).mono ?_; rintro e w' ⟨rfl, rfl⟩)
    | (go_at_call 21; refine (lock_any _ _ _ (by decide) (by decide)).mono ?_; rintro e w' ⟨rfl, rfl⟩)
    | (go_at_call 23; refine (next_any _ _ (by decide) (by decide)).mono ?_; rintro e w' ⟨rfl, rfl⟩)
    | (go_at_call 27; refine (key_any _ _ _).mono ?_; rintro e w' ⟨rfl, rfl⟩)
    | (go_at_call 29; refine (mark_any _ _).mono ?_; rintro e w' ⟨rfl, rfl⟩)
    | (go_at_call 31; refine (tag_any _ _ _).mono ?_; rintro e w' ⟨rfl, rfl⟩)
    | (go_at_call 35; refine (ballot_any _ _ _).mono ?_; rintro e w' ⟨rfl, rfl⟩))
  go_ret
  exact ⟨rfl, rfl⟩

theorem and_mask {x : Int} (k : Nat) (hk : k ≤ 64) (h0 : 0 ≤ x) (h1 : x < 18446744073709551616) : bits .and .u64 x (2 ^ k - 1) = x % 2 ^ k := and_u64 k hk x h0 h1

def fieldV (x a n : Int) : Int := if 1 ≤ n ∧ n ≤ 64 ∧ 0 ≤ a ∧ a ≤ 64 - n then x / 2 ^ a.toNat % 2 ^ n.toNat else 0
def fieldE (a n : Int) : Int := if 1 ≤ n ∧ n ≤ 64 ∧ 0 ≤ a ∧ a ≤ 64 - n then 0 else 1

theorem wf_u64 {a : Int} (h : (Lit.int .u64 a).wf = true) : 0 ≤ a ∧ a < 18446744073709551616 := by
  have hx : 0 ≤ a ∧ a ≤ 18446744073709551615 := by simpa [Lit.wf, IntKind.min, IntKind.max, IntKind.signed, IntKind.bits] using h
  omega
theorem wf_i64 {a : Int} (h : (Lit.int .i64 a).wf = true) : -9223372036854775808 ≤ a ∧ a ≤ 9223372036854775807 := by
  simpa [Lit.wf, IntKind.min, IntKind.max, IntKind.signed, IntKind.bits] using h
theorem grown_drewN {w w' : World} (h : Grown w w') (n : Nat) : Grown w (w'.drewN n) := h

theorem ones_ref (n : Int) (w : World) (n0 : 1 ≤ n) (n1 : n ≤ 64) :
    Calls Try.prog 52 #[.int .i64 n] w fun e w' => e = .returned (.int .u64 (2 ^ n.toNat - 1)) ∧ w = w' := by
  by_cases h : 64 ≤ n
  · go_enter Try.func52, Try.ntmps52
    go_wp2
    go_ret
    have e : n = 64 := by omega
    exact ⟨by rw [e]; rfl, rfl⟩
  · have h' : n < 64 := by omega
    go_enter Try.func52, Try.ntmps52
    go_wp2
    go_ret
    refine ⟨?_, rfl⟩
    simp
    exact low_num _ (by omega)

theorem fieldV_eq {x a n : Int} (h0 : 0 ≤ x) (h1 : x < 18446744073709551616) (h : 1 ≤ n ∧ n ≤ 64 ∧ 0 ≤ a ∧ a ≤ 64 - n) : bits .and .u64 (x / 2 ^ a.toNat) (2 ^ n.toNat - 1) = fieldV x a n := by
  rw [fieldV, if_pos h]
  have hp : (0 : Int) < 2 ^ a.toNat := Int.pow_pos (by decide)
  exact and_u64 _ (by omega) _ (Int.ediv_nonneg h0 (by omega)) (Int.lt_of_le_of_lt (Int.ediv_le_self _ h0) h1)

theorem field_any (x a n : Int) (w : World) (h0 : 0 ≤ x) (h1 : x < 18446744073709551616) :
    Calls Try.prog 11 #[.int .u64 x, .int .i64 a, .int .i64 n] w fun e w' => e = .returned (.tuple #[.int .u64 (fieldV x a n), .int .i64 (fieldE a n)]) ∧ ∃ m, w' = w.drewN m := by
  by_cases h : 1 ≤ n ∧ n ≤ 64 ∧ 0 ≤ a ∧ a ≤ 64 - n
  · have e1 : isFieldB a n = true := by simp [isFieldB, h]
    have n0 := h.1
    have n1 := h.2.1
    have a0 := h.2.2.1
    have a1 := h.2.2.2
    have H := Lib.hid h
    clear h
    go_enter Try.func11, Try.ntmps11
    go_wp2_with (go_at_call 50; refine (isField_any _ _ _).mono ?_; rintro e w' ⟨rfl, rfl⟩)
    go_quiet ((go_at_call 51; exact quiet_left (low_any _ _ (by omega) (by omega))))
    go_wp2
    go_ret2
    exact ⟨ret_tup2 (fieldV_eq h0 h1 H.out) (by rw [fieldE, if_pos H.out]), _, rfl⟩
  · have e1 : isFieldB a n = false := by simp only [isFieldB, decide_eq_false_iff_not]; exact h
    have H := Lib.hid h
    clear h
    go_enter Try.func11, Try.ntmps11
    go_wp2_with (go_at_call 50; refine (isField_any _ _ _).mono ?_; rintro e w' ⟨rfl, rfl⟩)
    go_ret2
    exact ⟨by rw [fieldV, fieldE, if_neg H.out, if_neg H.out]; rfl, 0, rfl⟩

theorem field_ref (x a n : Int) (w : World) (h0 : 0 ≤ x) (h1 : x < 18446744073709551616) :
    Calls Try.prog 12 #[.int .u64 x, .int .i64 a, .int .i64 n] w fun e w' => e = .returned (.tuple #[.int .u64 (fieldV x a n), .int .i64 (fieldE a n)]) ∧ w = w' := by
  by_cases h : 1 ≤ n ∧ n ≤ 64 ∧ 0 ≤ a ∧ a ≤ 64 - n
  · have n0 := h.1
    have n1 := h.2.1
    have a0 := h.2.2.1
    have a1 := h.2.2.2
    have H := Lib.hid h
    clear h
    go_enter Try.func12, Try.ntmps12
    go_wp2_with (go_at_call 52; refine (ones_ref _ _ (by omega) (by omega)).mono ?_; rintro e w' ⟨rfl, rfl⟩)
    go_ret2
    exact ⟨ret_tup2 (fieldV_eq h0 h1 H.out) (by rw [fieldE, if_pos H.out]), rfl⟩
  · have H := Lib.hid h
    clear h
    go_enter Try.func12, Try.ntmps12
    go_wp2_with (go_at_call 52; refine (ones_ref _ _ (by omega) (by omega)).mono ?_; rintro e w' ⟨rfl, rfl⟩)
    all_goals first | (exfalso; have := H.out; omega) | (go_ret2; exact ⟨ret_tup2 (by rw [fieldV, if_neg H.out]) (by rw [fieldE, if_neg H.out]), rfl⟩)

theorem join_nat (A B hi lo v : Nat) (i j : Nat) (hA : A = 2 ^ i) (hB : B = 2 ^ j) (hl : lo < A) (hv : v < B) :
    (hi * (A * B) + lo) ||| (v * A) = hi * (A * B) + v * A + lo := by
  have hAB : A * B = 2 ^ (i + j) := by rw [hA, hB, Nat.pow_add]
  have hA0 : 0 < A := by rw [hA]; exact Nat.two_pow_pos i
  have hvA : v * A + lo < A * B := by
    have : (v + 1) * A ≤ B * A := Nat.mul_le_mul_right A hv
    rw [Nat.mul_comm B A, Nat.add_mul] at this
    omega
  have e1 : hi * (A * B) ||| lo = hi * (A * B) + lo := nat_join (i + j) _ _ (by rw [hAB]; exact Nat.mul_mod_left _ _) (by rw [← hAB]; omega)
  have e2 : v * A ||| lo = v * A + lo := nat_join i _ _ (by rw [hA]; exact Nat.mul_mod_left _ _) (by rw [← hA]; exact hl)
  have e3 : hi * (A * B) ||| (v * A + lo) = hi * (A * B) + (v * A + lo) := nat_join (i + j) _ _ (by rw [hAB]; exact Nat.mul_mod_left _ _) (by rw [← hAB]; exact hvA)
  rw [← e1, Nat.or_assoc, Nat.or_comm lo, e2, e3, Nat.add_assoc]

theorem andNot_nat (x i j : Nat) (h : i + j ≤ 64) : x &&& (18446744073709551615 - (2 ^ j - 1) * 2 ^ i) = x % 18446744073709551616 / 2 ^ (i + j) * 2 ^ (i + j) + x % 2 ^ i := by
  have hM : (2 ^ j - 1) * 2 ^ i < 2 ^ 64 := by
    have h1 : (2 ^ j - 1) * 2 ^ i ≤ 2 ^ j * 2 ^ i - 1 := by
      have : 0 < 2 ^ i := Nat.two_pow_pos i
      rw [Nat.sub_mul]; omega
    have h2 : 2 ^ j * 2 ^ i ≤ 2 ^ 64 := by rw [← Nat.pow_add]; exact Nat.pow_le_pow_right (by decide) (by omega)
    have h3 : 0 < 2 ^ j * 2 ^ i := Nat.mul_pos (Nat.two_pow_pos _) (Nat.two_pow_pos _)
    omega
  have e0 : 18446744073709551615 - (2 ^ j - 1) * 2 ^ i = 2 ^ 64 - ((2 ^ j - 1) * 2 ^ i + 1) := by omega
  rw [e0]
  apply Nat.eq_of_testBit_eq
  intro k
  have hlo : x % 2 ^ i < 2 ^ (i + j) := Nat.lt_of_lt_of_le (Nat.mod_lt _ (Nat.two_pow_pos i)) (Nat.pow_le_pow_right (by decide) (by omega))
  rw [Nat.mul_comm (x % 18446744073709551616 / 2 ^ (i + j)) (2 ^ (i + j)), Nat.testBit_two_pow_mul_add _ hlo, Nat.testBit_and, Nat.testBit_two_pow_sub_succ hM, Nat.mul_comm (2 ^ j - 1) (2 ^ i), Nat.testBit_two_pow_mul, Nat.testBit_two_pow_sub_one]
  rw [show (18446744073709551616 : Nat) = 2 ^ 64 from rfl, Nat.testBit_mod_two_pow, Nat.testBit_div_two_pow, Nat.testBit_mod_two_pow]
  by_cases c1 : k < i + j
  · rw [if_pos c1]
    by_cases c2 : k < i
    · have c3 : k < 64 := by omega
      have c4 : ¬ i ≤ k := by omega
      simp [c2, c3, c4]
    · have c3 : k < 64 := by omega
      have c4 : i ≤ k := by omega
      have c5 : k - i < j := by omega
      simp [c2, c3, c4, c5]
  · rw [if_neg c1]
    have c4 : i ≤ k := by omega
    have c5 : ¬ k - i < j := by omega
    have c6 : i + j + (k - (i + j)) = k := by omega
    simp [c4, c5]
    rw [show k - (i + j) + (i + j) = k from by omega]
    exact Bool.and_comm _ _

def setV (x a n v : Int) : Int := if 1 ≤ n ∧ n ≤ 64 ∧ 0 ≤ a ∧ a ≤ 64 - n then (if v ≤ 2 ^ n.toNat - 1 then x / 2 ^ (a.toNat + n.toNat) * 2 ^ (a.toNat + n.toNat) + v * 2 ^ a.toNat + x % 2 ^ a.toNat else 0) else 0
def setE (a n v : Int) : Int := if 1 ≤ n ∧ n ≤ 64 ∧ 0 ≤ a ∧ a ≤ 64 - n then (if v ≤ 2 ^ n.toNat - 1 then 0 else 2) else 1

theorem setV_eq {x a n v : Int} (h0 : 0 ≤ x) (h1 : x < 18446744073709551616) (h : 1 ≤ n ∧ n ≤ 64 ∧ 0 ≤ a ∧ a ≤ 64 - n) (v0 : 0 ≤ v) (hv : v ≤ 2 ^ n.toNat - 1) :
    bits .or .u64 (bits .andNot .u64 x (IntKind.u64.wrap ((2 ^ n.toNat - 1) * 2 ^ a.toNat))) (IntKind.u64.wrap (v * 2 ^ a.toNat)) = setV x a n v := by
  rw [setV, if_pos h, if_pos hv]
  obtain ⟨X, rfl⟩ := Int.eq_ofNat_of_zero_le h0
  obtain ⟨V, rfl⟩ := Int.eq_ofNat_of_zero_le v0
  generalize hi : a.toNat = i at *
  generalize hj : n.toNat = j at *
  have hij : i + j ≤ 64 := by omega
  have pi := Nat.two_pow_pos i
  have pj := Nat.two_pow_pos j
  have cj : ((2 : Int) ^ j - 1) = ((2 ^ j - 1 : Nat) : Int) := by rw [Int.natCast_sub pj]; simp
  have hV : V < 2 ^ j := by
    rw [cj] at hv
    omega
  have hle : 2 ^ i * 2 ^ j ≤ 18446744073709551616 := by
    rw [← Nat.pow_add]; exact Nat.pow_le_pow_right (show 2 > 0 by decide) hij
  have hm : ∀ y : Nat, y < 2 ^ j → IntKind.u64.wrap ((y : Int) * 2 ^ i) = ((y * 2 ^ i : Nat) : Int) ∧ y * 2 ^ i < 18446744073709551616 := by
    intro y hy
    have : (y + 1) * 2 ^ i ≤ 2 ^ j * 2 ^ i := Nat.mul_le_mul_right _ hy
    rw [Nat.add_mul, Nat.mul_comm (2 ^ j)] at this
    have hlt : y * 2 ^ i < 18446744073709551616 := by omega
    refine ⟨?_, hlt⟩
    rw [show ((y : Int) * 2 ^ i) = ((y * 2 ^ i : Nat) : Int) from by simp, IntKind.wrap_u64]
    omega
  have m1 := hm (2 ^ j - 1) (by omega)
  have m2 := hm V hV
  rw [cj, m1.1, m2.1, u64_andNot_nat X _ (by omega) m1.2, andNot_nat X i j hij, Nat.mod_eq_of_lt (by omega)]
  have hjoin := join_nat (2 ^ i) (2 ^ j) (X / 2 ^ (i + j)) (X % 2 ^ i) V i j rfl rfl (Nat.mod_lt _ pi) hV
  rw [← Nat.pow_add] at hjoin
  have hlt : X / 2 ^ (i + j) * 2 ^ (i + j) + X % 2 ^ i < 18446744073709551616 := by
    have e1 : X / 2 ^ (i + j) * 2 ^ (i + j) + X % 2 ^ (i + j) = X := Nat.div_add_mod' _ _
    have e2 : X % 2 ^ i ≤ X % 2 ^ (i + j) := by
      rw [Nat.pow_add, Nat.mod_mul]; omega
    omega
  rw [u64_or_nat _ _ hlt m2.2, hjoin]
  simp

theorem setField_any (x a n v : Int) (w : World) (h0 : 0 ≤ x) (h1 : x < 18446744073709551616) (v0 : 0 ≤ v) :
    Calls Try.prog 13 #[.int .u64 x, .int .i64 a, .int .i64 n, .int .u64 v] w fun e w' => e = .returned (.tuple #[.int .u64 (setV x a n v), .int .i64 (setE a n v)]) ∧ ∃ m, w' = w.drewN m := by
  by_cases h : 1 ≤ n ∧ n ≤ 64 ∧ 0 ≤ a ∧ a ≤ 64 - n
  · have e1 : isFieldB a n = true := by simp [isFieldB, h]
    have n0 := h.1
    have n1 := h.2.1
    have a0 := h.2.2.1
    have a1 := h.2.2.2
    have H := Lib.hid h
    clear h
    by_cases hv : v ≤ 2 ^ n.toNat - 1
    · go_enter Try.func13, Try.ntmps13
      go_wp2_with (first | (go_at_call 50; refine (isField_any _ _ _).mono ?_; rintro e w' ⟨rfl, rfl⟩) | (go_at_call 51; refine (low_any _ _ (by omega) (by omega)).mono ?_; rintro e w' ⟨rfl, rfl⟩))
      go_quiet ((go_at_call 51; exact quiet_left (low_any _ _ (by omega) (by omega))))
      go_wp2
      go_ret2
      exact ⟨ret_tup2 (setV_eq h0 h1 H.out v0 hv) (by rw [setE, if_pos H.out, if_pos hv]), _, rfl⟩
    · have hv' : 2 ^ n.toNat - 1 < v := by omega
      go_enter Try.func13, Try.ntmps13
      go_wp2_with (first | (go_at_call 50; refine (isField_any _ _ _).mono ?_; rintro e w' ⟨rfl, rfl⟩) | (go_at_call 51; refine (low_any _ _ (by omega) (by omega)).mono ?_; rintro e w' ⟨rfl, rfl⟩))
      go_ret2
      exact ⟨ret_tup2 (by rw [setV, if_pos H.out, if_neg (by omega)]) (by rw [setE, if_pos H.out, if_neg (by omega)]), 0, rfl⟩
  · have e1 : isFieldB a n = false := by simp only [isFieldB, decide_eq_false_iff_not]; exact h
    have H := Lib.hid h
    clear h
    go_enter Try.func13, Try.ntmps13
    go_wp2_with (go_at_call 50; refine (isField_any _ _ _).mono ?_; rintro e w' ⟨rfl, rfl⟩)
    go_ret2
    exact ⟨ret_tup2 (by rw [setV, if_neg H.out]) (by rw [setE, if_neg H.out]), 0, rfl⟩

theorem setField_ref (x a n v : Int) (w : World) (h0 : 0 ≤ x) (h1 : x < 18446744073709551616) (v0 : 0 ≤ v) :
    Calls Try.prog 14 #[.int .u64 x, .int .i64 a, .int .i64 n, .int .u64 v] w fun e w' => e = .returned (.tuple #[.int .u64 (setV x a n v), .int .i64 (setE a n v)]) ∧ w = w' := by
  by_cases h : 1 ≤ n ∧ n ≤ 64 ∧ 0 ≤ a ∧ a ≤ 64 - n
  · have n0 := h.1
    have n1 := h.2.1
    have a0 := h.2.2.1
    have a1 := h.2.2.2
    have H := Lib.hid h
    clear h
    by_cases hv : v ≤ 2 ^ n.toNat - 1
    · go_enter Try.func14, Try.ntmps14
      go_wp2_with (go_at_call 52; refine (ones_ref _ _ (by omega) (by omega)).mono ?_; rintro e w' ⟨rfl, rfl⟩)
      go_ret2
      exact ⟨ret_tup2 (setV_eq h0 h1 H.out v0 hv) (by rw [setE, if_pos H.out, if_pos hv]), rfl⟩
    · have hv' : 2 ^ n.toNat - 1 < v := by omega
      go_enter Try.func14, Try.ntmps14
      go_wp2_with (go_at_call 52; refine (ones_ref _ _ (by omega) (by omega)).mono ?_; rintro e w' ⟨rfl, rfl⟩)
      go_ret2
      exact ⟨ret_tup2 (by rw [setV, if_pos H.out, if_neg (by omega)]) (by rw [setE, if_pos H.out, if_neg (by omega)]), rfl⟩
  · have H := Lib.hid h
    clear h
    go_enter Try.func14, Try.ntmps14
    go_wp2_with (go_at_call 52; refine (ones_ref _ _ (by omega) (by omega)).mono ?_; rintro e w' ⟨rfl, rfl⟩)
    all_goals first | (exfalso; have := H.out; omega) | (go_ret2; exact ⟨ret_tup2 (by rw [setV, if_neg H.out]) (by rw [setE, if_neg H.out]), rfl⟩)
end Go.Proofs.Ytkdcencnakaaaaa.Wd
