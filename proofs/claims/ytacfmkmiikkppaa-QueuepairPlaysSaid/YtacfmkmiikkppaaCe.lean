/-
  Contracts of the reference's Little.
-/
import Derived.Test.YtacfmkmiikkppaaGa
import Derived.Laws.CopyOwn
namespace Go.Proofs.Ytacfmkmiikkppaa.Ma

def poly : Nat := 14514072000185962306
def one (r : Nat) : Nat := if r % 2 = 1 then r / 2 ^^^ poly else r / 2
def steps : Nat → Nat → Nat
  | 0, r => r
  | n + 1, r => steps n (one r)

theorem xor_xor_same (a b : Nat) : (a ^^^ b) ^^^ b = a := by rw [Nat.xor_assoc, Nat.xor_self, Nat.xor_zero]
theorem xor_four (a b c d : Nat) : (a ^^^ b) ^^^ (c ^^^ d) = (a ^^^ c) ^^^ (b ^^^ d) := by
  rw [Nat.xor_assoc, ← Nat.xor_assoc b, Nat.xor_comm b c, Nat.xor_assoc c, ← Nat.xor_assoc]
theorem xor_cancel {a b c : Nat} (h : a ^^^ c = b ^^^ c) : a = b := by
  have := congrArg (· ^^^ c) h
  simpa [xor_xor_same] using this
theorem xor_eq_zero {a b : Nat} (h : a ^^^ b = 0) : a = b := by
  apply xor_cancel (c := b); rw [h, Nat.xor_self]

theorem step_zero : one 0 = 0 := by decide
theorem step_xor (a b : Nat) : one (a ^^^ b) = one a ^^^ one b := by
  have hm : (a ^^^ b) % 2 = (a % 2 + b % 2) % 2 := by
    have := Nat.xor_mod_two_eq_one (a := a) (b := b)
    omega
  have hd : (a ^^^ b) / 2 = a / 2 ^^^ b / 2 := Nat.xor_div_two
  unfold one
  rw [hm, hd]
  rcases Nat.mod_two_eq_zero_or_one a with ha | ha <;> rcases Nat.mod_two_eq_zero_or_one b with hb | hb <;> simp [ha, hb]
  · rw [Nat.xor_assoc]
  · rw [Nat.xor_assoc, Nat.xor_assoc, Nat.xor_comm (b / 2)]
  · rw [xor_four, Nat.xor_self, Nat.xor_zero]
theorem step_two (x : Nat) : one (2 * x) = x := by unfold one; rw [if_neg (by omega)]; omega
theorem step_lt {r : Nat} (h : r < 18446744073709551616) : one r < 18446744073709551616 := by
  unfold one
  split
  · exact Nat.xor_lt_two_pow (n := 64) (by omega) (by decide)
  · omega
theorem step_ne {r : Nat} (h : r < 18446744073709551616) (h0 : r ≠ 0) : one r ≠ 0 := by
  unfold one
  split
  · intro e
    have := xor_eq_zero e
    unfold poly at this
    omega
  · omega

theorem steps_zero (n : Nat) : steps n 0 = 0 := by
  induction n with
  | zero => rfl
  | succ n ih => rw [steps, step_zero, ih]
theorem steps_xor (n a b : Nat) : steps n (a ^^^ b) = steps n a ^^^ steps n b := by
  induction n generalizing a b with
  | zero => rfl
  | succ n ih => rw [steps, steps, steps, step_xor, ih]
theorem steps_add (n m r : Nat) : steps (n + m) r = steps m (steps n r) := by
  induction n generalizing r with
  | zero => rw [Nat.zero_add]; rfl
  | succ n ih => rw [Nat.succ_add, steps, steps, ih]
theorem steps_succ (n r : Nat) : steps (n + 1) r = one (steps n r) := steps_add n 1 r
theorem steps_mul (n x : Nat) : steps n (2 ^ n * x) = x := by
  induction n generalizing x with
  | zero => simp [steps]
  | succ n ih => rw [steps, Nat.pow_succ, Nat.mul_comm (2 ^ n) 2, Nat.mul_assoc, step_two, ih]
theorem steps_lt (n : Nat) {r : Nat} (h : r < 18446744073709551616) : steps n r < 18446744073709551616 := by
  induction n generalizing r with
  | zero => exact h
  | succ n ih => exact ih (step_lt h)
theorem steps_ne (n : Nat) {r : Nat} (h : r < 18446744073709551616) (h0 : r ≠ 0) : steps n r ≠ 0 := by
  induction n generalizing r with
  | zero => exact h0
  | succ n ih => exact ih (step_lt h) (step_ne h h0)

/-- A number is its high part and its low part. -/
theorem split_xor (n r : Nat) : r = 2 ^ n * (r / 2 ^ n) ^^^ r % 2 ^ n := by
  apply Nat.eq_of_testBit_eq
  intro i
  rw [Nat.testBit_xor, Nat.testBit_two_pow_mul, Nat.testBit_mod_two_pow, Nat.testBit_div_two_pow]
  by_cases h : n ≤ i
  · simp [h, Nat.not_lt.mpr h]
  · simp [h, Nat.lt_of_not_le h]
theorem add_xor {n a b : Nat} (h : b < 2 ^ n) : 2 ^ n * a ^^^ b = 2 ^ n * a + b := by
  have := split_xor n (2 ^ n * a + b)
  rw [Nat.mul_add_div (Nat.two_pow_pos n), Nat.div_eq_of_lt h, Nat.add_zero, Nat.mul_add_mod, Nat.mod_eq_of_lt h] at this
  exact this.symm
theorem steps_split (n r : Nat) : steps n r = r / 2 ^ n ^^^ steps n (r % 2 ^ n) := by
  conv => lhs; rw [split_xor n r, steps_xor, steps_mul]
theorem eight (r : Nat) : steps 8 r = r / 256 ^^^ steps 8 (r % 256) := steps_split 8 r

theorem mul_xor (n a b : Nat) : 2 ^ n * (a ^^^ b) = 2 ^ n * a ^^^ 2 ^ n * b := by
  apply Nat.eq_of_testBit_eq
  intro i
  rw [Nat.testBit_xor, Nat.testBit_two_pow_mul, Nat.testBit_two_pow_mul, Nat.testBit_two_pow_mul, Nat.testBit_xor]
  by_cases hi : n ≤ i <;> simp [hi]

/-- A message of bytes, the first byte lowest. -/
def num : List Nat → Nat
  | [] => 0
  | x :: l => x + 256 * num l
def feed (r : Nat) (l : List Nat) : Nat := l.foldl (fun r x => steps 8 (r ^^^ x)) r
theorem feed_num (l : List Nat) (r : Nat) (h : ∀ x ∈ l, x < 256) : feed r l = steps (8 * l.length) (r ^^^ num l) := by
  induction l generalizing r with
  | nil => simp [feed, num, steps]
  | cons x l ih =>
    have hx : x < 2 ^ 8 := h x (by simp)
    have := ih (steps 8 (r ^^^ x)) (fun y hy => h y (by simp [hy]))
    unfold feed at this ⊢
    rw [List.foldl_cons, this, List.length_cons, Nat.mul_succ, Nat.add_comm _ 8, steps_add]
    congr 1
    have e : num (x :: l) = 2 ^ 8 * num l ^^^ x := by rw [add_xor hx, num]; omega
    rw [e, Nat.xor_comm (2 ^ 8 * num l) x, ← Nat.xor_assoc, steps_xor 8 (r ^^^ x), steps_mul]
theorem feed_append (r : Nat) (a b : List Nat) : feed r (a ++ b) = feed (feed r a) b := by simp [feed]
theorem feed_snoc (r : Nat) (a : List Nat) (x : Nat) : feed r (a ++ [x]) = steps 8 (feed r a ^^^ x) := by simp [feed]
theorem feed_lt (l : List Nat) {r : Nat} (hr : r < 18446744073709551616) (h : ∀ x ∈ l, x < 256) : feed r l < 18446744073709551616 := by
  induction l generalizing r with
  | nil => exact hr
  | cons x l ih =>
    exact ih (steps_lt 8 (Nat.xor_lt_two_pow (n := 64) hr (by have := h x (by simp); omega))) (fun y hy => h y (by simp [hy]))

def ones : Nat := 18446744073709551615
def crc (l : List Nat) : Nat := feed ones l ^^^ ones
def ext (s : Nat) (l : List Nat) : Nat := feed (s ^^^ ones) l ^^^ ones
theorem ext_zero (l : List Nat) : ext 0 l = crc l := by simp [ext, crc]
theorem ext_ext (s : Nat) (a b : List Nat) : ext (ext s a) b = ext s (a ++ b) := by
  unfold ext; rw [xor_xor_same, feed_append]
theorem ext_crc (a b : List Nat) : ext (crc a) b = crc (a ++ b) := by rw [← ext_zero, ext_ext, ext_zero]
theorem ext_nil (s : Nat) : ext s [] = s := by simp [ext, feed, xor_xor_same]
theorem ext_lt {s : Nat} (hs : s < 18446744073709551616) {l : List Nat} (h : ∀ x ∈ l, x < 256) : ext s l < 18446744073709551616 :=
  Nat.xor_lt_two_pow (n := 64) (feed_lt l (Nat.xor_lt_two_pow (n := 64) hs (by decide)) h) (by decide)

/-- The eight bytes of a word. -/
def little (w : Nat) : List Nat := (List.range 8).map fun i => w / 2 ^ (8 * i) % 256
theorem num_little {w : Nat} (h : w < 18446744073709551616) : num (little w) = w := by
  simp [little, List.range, List.range.loop, num]
  omega
theorem little_lt (w : Nat) : ∀ x ∈ little w, x < 256 := by
  intro x hx
  simp [little] at hx
  obtain ⟨i, _, rfl⟩ := hx
  omega
theorem feed_little {w : Nat} (h : w < 18446744073709551616) (r : Nat) : feed r (little w) = steps 64 (r ^^^ w) := by
  rw [feed_num _ _ (little_lt w), num_little h]
  simp [little]

def bytesOf (l : List Nat) : List Nat := l.flatMap little
theorem bytesOf_lt (l : List Nat) : ∀ x ∈ bytesOf l, x < 256 := by
  intro x hx
  simp [bytesOf] at hx
  obtain ⟨w, _, h⟩ := hx
  exact little_lt w x h

theorem num_xor : ∀ (a b : List Nat), a.length = b.length → (∀ x ∈ a, x < 256) → (∀ x ∈ b, x < 256) →
    num (List.zipWith (· ^^^ ·) a b) = num a ^^^ num b
  | [], [], _, _, _ => rfl
  | x :: a, y :: b, h, h1, h2 => by
    have ih := num_xor a b (by simpa using h) (fun z hz => h1 z (by simp [hz])) (fun z hz => h2 z (by simp [hz]))
    have hx : x < 2 ^ 8 := h1 x (by simp)
    have hy : y < 2 ^ 8 := h2 y (by simp)
    have e : ∀ (z n : Nat), z < 2 ^ 8 → z + 256 * n = 2 ^ 8 * n ^^^ z := fun z n hz => by rw [add_xor hz]; omega
    rw [List.zipWith_cons_cons, num, num, num, ih, e _ _ (Nat.xor_lt_two_pow hx hy), e _ _ hx, e _ _ hy, xor_four]
    rw [mul_xor]
theorem zw_lt {a b : List Nat} (h1 : ∀ x ∈ a, x < 256) (h2 : ∀ x ∈ b, x < 256) : ∀ x ∈ List.zipWith (· ^^^ ·) a b, x < 256 := by
  intro x hx
  obtain ⟨i, hi, rfl⟩ := List.getElem_of_mem hx
  rw [List.getElem_zipWith]
  exact Nat.xor_lt_two_pow (n := 8) (h1 _ (List.getElem_mem _)) (h2 _ (List.getElem_mem _))
theorem crc_linear {a b c : List Nat} (hab : a.length = b.length) (hac : a.length = c.length) (h1 : ∀ x ∈ a, x < 256) (h2 : ∀ x ∈ b, x < 256) (h3 : ∀ x ∈ c, x < 256) :
    crc (List.zipWith (· ^^^ ·) (List.zipWith (· ^^^ ·) a b) c) = crc a ^^^ crc b ^^^ crc c := by
  unfold crc
  rw [feed_num _ _ (zw_lt (zw_lt h1 h2) h3), feed_num _ _ h1, feed_num _ _ h2, feed_num _ _ h3,
    num_xor _ _ (by simp; omega) (zw_lt h1 h2) h3, num_xor _ _ hab h1 h2]
  have e : (List.zipWith (· ^^^ ·) (List.zipWith (· ^^^ ·) a b) c).length = a.length := by simp; omega
  rw [e, ← hab, ← hac]
  simp only [steps_xor]
  generalize steps (8 * a.length) ones = o
  generalize steps (8 * a.length) (num a) = x
  generalize steps (8 * a.length) (num b) = y
  generalize steps (8 * a.length) (num c) = z
  apply Nat.eq_of_testBit_eq
  intro i
  simp only [Nat.testBit_xor]
  cases o.testBit i <;> cases x.testBit i <;> cases y.testBit i <;> cases z.testBit i <;> cases ones.testBit i <;> rfl

/-- Bursts. -/
theorem num_flip (l : List Nat) (q s : Nat) (hq : q < l.length) (hs : s < 8) (h : ∀ x ∈ l, x < 256) :
    num (l.set q (l.getD q 0 ^^^ 2 ^ s)) = num l ^^^ 2 ^ (8 * q + s) := by
  have e : ∀ (z n : Nat), z < 2 ^ 8 → z + 256 * n = 2 ^ 8 * n ^^^ z := fun z n hz => by rw [add_xor hz]; omega
  have h8 : 2 ^ s < 2 ^ 8 := Nat.pow_lt_pow_right (by decide) hs
  induction l generalizing q with
  | nil => simp at hq
  | cons x l ih =>
    have hx : x < 2 ^ 8 := h x (by simp)
    cases q with
    | zero =>
      simp only [List.set_cons_zero, List.getD_cons_zero, num]
      rw [e _ _ (Nat.xor_lt_two_pow hx h8), e _ _ hx, Nat.xor_assoc]
      simp
    | succ q =>
      simp only [List.set_cons_succ, List.getD_cons_succ, num]
      rw [ih q (by simpa using hq) (fun y hy => h y (by simp [hy])), e _ _ hx, e _ _ hx, mul_xor, ← Nat.pow_add, Nat.xor_assoc, Nat.xor_comm _ x, ← Nat.xor_assoc]
      congr 2
      omega
theorem flip_lt {l : List Nat} {q s : Nat} (hs : s < 8) (h : ∀ x ∈ l, x < 256) : ∀ x ∈ l.set q (l.getD q 0 ^^^ 2 ^ s), x < 256 := by
  intro x hx
  rcases List.mem_or_eq_of_mem_set hx with hx | rfl
  · exact h x hx
  · have h8 : 2 ^ s < 2 ^ 8 := Nat.pow_lt_pow_right (by decide) hs
    refine Nat.xor_lt_two_pow (n := 8) ?_ h8
    rw [List.getD_eq_getElem?_getD]
    rcases Nat.lt_or_ge q l.length with hq | hq
    · rw [List.getElem?_eq_getElem hq]; exact h _ (List.getElem_mem _)
    · rw [List.getElem?_eq_none hq]; decide
theorem mod_bit (p i : Nat) : p % 2 ^ (i + 1) = p % 2 ^ i ^^^ (if p / 2 ^ i % 2 = 1 then 2 ^ i else 0) := by
  apply Nat.eq_of_testBit_eq
  intro j
  rw [Nat.testBit_xor, Nat.testBit_mod_two_pow, Nat.testBit_mod_two_pow]
  have hb : p.testBit i = decide (p / 2 ^ i % 2 = 1) := by rw [Nat.testBit_eq_decide_div_mod_eq]
  by_cases hp : p / 2 ^ i % 2 = 1
  · rw [if_pos hp, Nat.testBit_two_pow]
    rcases Nat.lt_trichotomy j i with h | h | h
    · simp [h, Nat.lt_succ_of_lt h, Nat.ne_of_gt h]
    · subst h; simp [hb, hp]
    · simp [Nat.not_lt.mpr (Nat.le_of_lt h), Nat.not_lt.mpr (Nat.succ_le_of_lt h), Nat.ne_of_lt h]
  · rw [if_neg hp, Nat.zero_testBit]
    rcases Nat.lt_trichotomy j i with h | h | h
    · simp [h, Nat.lt_succ_of_lt h]
    · subst h; simp [hb, hp]
    · simp [Nat.not_lt.mpr (Nat.le_of_lt h), Nat.not_lt.mpr (Nat.succ_le_of_lt h)]
/-- What has been turned after i rounds. -/
def Turned (l : List Nat) (t p : Nat) (i : Nat) (m : List Nat) : Prop :=
  m.length = l.length ∧ (∀ x ∈ m, x < 256) ∧ num m = num l ^^^ 2 ^ t * (p % 2 ^ i)
theorem Turned.start {l : List Nat} {t p : Nat} (h : ∀ x ∈ l, x < 256) : Turned l t p 0 l := ⟨rfl, h, by simp [Nat.mod_one]⟩
theorem Turned.no {l m : List Nat} {t p i : Nat} (h : Turned l t p i m) (hp : p / 2 ^ i % 2 ≠ 1) : Turned l t p (i + 1) m :=
  ⟨h.1, h.2.1, by rw [h.2.2, mod_bit, if_neg hp, Nat.xor_zero]⟩
theorem Turned.yes {l m : List Nat} {t p i : Nat} (h : Turned l t p i m) (hp : p / 2 ^ i % 2 = 1) (hq : (t + i) / 8 < m.length) :
    Turned l t p (i + 1) (m.set ((t + i) / 8) (m.getD ((t + i) / 8) 0 ^^^ 2 ^ ((t + i) % 8))) :=
  ⟨by rw [List.length_set, h.1], flip_lt (Nat.mod_lt _ (by decide)) h.2.1, by
    rw [num_flip _ _ _ hq (Nat.mod_lt _ (by decide)) h.2.1, h.2.2, mod_bit, if_pos hp, mul_xor, ← Nat.pow_add, Nat.xor_assoc]
    congr 3
    omega⟩
theorem Turned.differ {l m : List Nat} {t p : Nat} (h : Turned l t p 64 m) (hl : ∀ x ∈ l, x < 256) (ht : t + 64 ≤ 8 * l.length) (h0 : p ≠ 0) (hp : p < 18446744073709551616) : crc m ≠ crc l := by
  intro e
  have e1 := xor_cancel e
  rw [feed_num _ _ h.2.1, feed_num _ _ hl, h.1, h.2.2, Nat.mod_eq_of_lt (show p < 2 ^ 64 by omega), ← Nat.xor_assoc, steps_xor] at e1
  have e2 : steps (8 * l.length) (2 ^ t * p) = 0 := by
    have := congrArg (steps (8 * l.length) (ones ^^^ num l) ^^^ ·) e1
    simpa [← Nat.xor_assoc] using this
  have e3 : 8 * l.length = t + (8 * l.length - t) := by omega
  rw [e3, steps_add, steps_mul] at e2
  exact steps_ne _ hp h0 e2

/-- The table. -/
def tab (i : Nat) : Nat := steps 8 i
theorem tab_bit (k : Nat) (hk : k ≤ 7) : tab (2 ^ (7 - k)) = steps (k + 1) 1 := by
  unfold tab
  have e : 8 = (7 - k) + (k + 1) := by omega
  rw [e, steps_add]
  have := steps_mul (7 - k) 1
  rw [Nat.mul_one] at this
  have e2 : 7 - k + (k + 1) - (k + 1) = 7 - k := by omega
  have e3 : 2 ^ (7 - k) = 2 ^ (7 - k + (k + 1) - (k + 1)) := by rw [e2]
  rw [this]
theorem tab_sum (k r : Nat) (hk : k ≤ 7) (hr : r % 2 ^ (8 - k) = 0) : tab (2 ^ (7 - k) + r) = steps (k + 1) 1 ^^^ tab r := by
  have hr' : r = 2 ^ (8 - k) * (r / 2 ^ (8 - k)) := by have := Nat.div_add_mod r (2 ^ (8 - k)); omega
  have hlt : 2 ^ (7 - k) < 2 ^ (8 - k) := Nat.pow_lt_pow_right (by decide) (by omega)
  have e : 2 ^ (7 - k) + r = r ^^^ 2 ^ (7 - k) := by
    conv => rhs; rw [hr', add_xor hlt]
    rw [← hr']; omega
  rw [e, ← tab_bit k hk]
  unfold tab
  rw [steps_xor, Nat.xor_comm]
theorem tab_lt {i : Nat} (h : i < 18446744073709551616) : tab i < 18446744073709551616 := steps_lt 8 h
theorem tab_shift (r : Nat) : r / 256 ^^^ tab (r % 256) = steps 8 r := (eight r).symm

end Go.Proofs.Ytacfmkmiikkppaa.Ma
namespace Go.Proofs.Ytacfmkmiikkppaa.Ca
open Go.ChangeShapes Go.WideShapes Go.ChangeAt Go.RowKit Ga Ma
set_option linter.unusedVariables false
set_option linter.unusedSimpArgs false
set_option maxRecDepth 10000

theorem bit_ (r : Nat) (h : r < 18446744073709551616) : bits .and .u64 (r : Int) 1 = ((r % 2 : Nat) : Int) := by
  have := u64_and_nat r 1 h (by decide)
  rw [nat_mask1] at this
  exact this
theorem xor_ (a b : Nat) (ha : a < 18446744073709551616) (hb : b < 18446744073709551616) : bits .xor .u64 (a : Int) (b : Int) = ((a ^^^ b : Nat) : Int) := u64_xor_nat a b ha hb
theorem one_yes (r : Nat) (h : r < 18446744073709551616) (hb : (bits .and .u64 (r : Int) 1 == 1) = true) : bits .xor .u64 ((r : Int) / 2) 14514072000185962306 = ((one r : Nat) : Int) := by
  rw [bit_ r h] at hb
  have hr : r % 2 = 1 := by simp at hb; omega
  have e : ((r : Int) / 2) = ((r / 2 : Nat) : Int) := by omega
  rw [e, one, if_pos hr]
  exact xor_ _ _ (by omega) (by decide)
theorem one_no (r : Nat) (h : r < 18446744073709551616) (hb : (bits .and .u64 (r : Int) 1 == 1) = false) : ((r : Int) / 2) = ((one r : Nat) : Int) := by
  rw [bit_ r h] at hb
  have hr : ¬ r % 2 = 1 := by simp at hb; omega
  rw [one, if_neg hr]; omega

theorem step_any (r : Nat) (w : World) (h : r < 18446744073709551616) :
    Calls Try.prog 96 #[.int .u64 r] w fun e w' => e = .returned (.int .u64 ((one r : Nat) : Int)) ∧ w = w' := by
  go_enter Try.func96, Try.ntmps96
  go_wp2
  · have hb : (bits .and .u64 (r : Int) 1 == 1) = true := by assumption
    go_ret
    exact ⟨ret_int (one_yes r h hb), rfl⟩
  · have hb : (bits .and .u64 (r : Int) 1 == 1) = false := by assumption
    go_ret
    exact ⟨ret_int (one_no r h hb), rfl⟩

theorem shift_any (g : Nat) (r : Nat) (w : World) (h : r < 18446744073709551616) (v : Nat) (hv : v < 18446744073709551616)
    (hc : w.cell? ⟨g, r % 256, none⟩ = some (.int .u64 v)) :
    Calls Try.prog 92 #[.pointer (some ⟨g, 0, none⟩), .int .u64 r] w fun e w' => e = .returned (.int .u64 ((r / 256 ^^^ v : Nat) : Int)) ∧ w = w' := by
  go_enter Try.func92, Try.ntmps92
  go_wp2
  go_ret
  refine ⟨ret_int ?_, rfl⟩
  have e : ((r : Int) / 256) = ((r / 256 : Nat) : Int) := by omega
  rw [e]
  exact xor_ _ _ (by omega) hv

/-! The table as an array. -/
def zeros : Array Value := Array.replicate 256 (.int .u64 0)
def cellT (i : Nat) : Value := .int .u64 ((tab i : Nat) : Int)
def tabV : Array Value := Array.ofFn (n := 256) fun i => cellT i
def Fill (cs : Array Value) (p : Nat → Prop) : Prop := cs.size = 256 ∧ (∀ i, i < 256 → p i → cs[i]? = some (cellT i)) ∧ cs.all (·.oneCell') = true
/-- What is right within round k: the multiples of 2 * d, and the multiples of d below r. -/
def Done (d r : Nat) (i : Nat) : Prop := i % (2 * d) = 0 ∨ (i % d = 0 ∧ i < r)
def Half (k d : Nat) : Prop := k ≤ 7 ∧ d = 2 ^ (7 - k)
theorem Half.cases {k d : Nat} (h : Half k d) : (k = 0 ∧ d = 128) ∨ (k = 1 ∧ d = 64) ∨ (k = 2 ∧ d = 32) ∨ (k = 3 ∧ d = 16) ∨ (k = 4 ∧ d = 8) ∨ (k = 5 ∧ d = 4) ∨ (k = 6 ∧ d = 2) ∨ (k = 7 ∧ d = 1) := by
  obtain ⟨h1, rfl⟩ := h
  match k, h1 with
  | 0, _ => simp
  | 1, _ => simp
  | 2, _ => simp
  | 3, _ => simp
  | 4, _ => simp
  | 5, _ => simp
  | 6, _ => simp
  | 7, _ => simp
theorem Fill.start : Fill zeros (Done 128 0) := by
  refine ⟨by simp [zeros], fun i hi hp => ?_, by rw [Array.all_eq_true_iff_forall_mem]; intro v hv; rw [zeros, Array.mem_replicate] at hv; rw [hv.2]; rfl⟩
  have h0 : i = 0 := by unfold Done at hp; omega
  subst h0
  simp [zeros, cellT, tab, steps_zero]
theorem Fill.room {cs : Array Value} {k d r : Nat} (hk : Half k d) (h : Fill cs (Done d r)) (hm : r % (2 * d) = 0) (hr : r < 256) :
    cs[r]? = some (cellT r) ∧ (∃ v, cs[d + r]? = some v) ∧ d + r < 256 ∧ r + 2 * d ≤ 256 ∧ (r + 2 * d) % (2 * d) = 0 := by
  refine ⟨h.2.1 r hr (.inl hm), ?_, ?_, ?_, ?_⟩
  · have : d + r < cs.size := by rw [h.1]; rcases hk.cases with h | h | h | h | h | h | h | h <;> (obtain ⟨rfl, rfl⟩ := h; omega)
    exact ⟨_, Array.getElem?_eq_getElem this⟩
  all_goals (rcases hk.cases with h | h | h | h | h | h | h | h <;> (obtain ⟨rfl, rfl⟩ := h; omega))
theorem Fill.more {cs : Array Value} {k d r : Nat} (hk : Half k d) (h : Fill cs (Done d r)) (hm : r % (2 * d) = 0) (hr : r < 256) :
    Fill (cs.setIfInBounds (d + r) (cellT (d + r))) (Done d (r + 2 * d)) := by
  refine ⟨by simp [h.1], fun i hi hp => ?_, ?_⟩
  · rw [Array.getElem?_setIfInBounds]
    by_cases e : d + r = i
    · rw [if_pos e, if_pos (by rw [h.1, e]; exact hi), e]
    · rw [if_neg e]
      refine h.2.1 i hi ?_
      unfold Done at hp ⊢
      rcases hk.cases with q | q | q | q | q | q | q | q <;> (obtain ⟨rfl, rfl⟩ := q; omega)
  · rw [Array.all_eq_true_iff_forall_mem]
    intro v hv
    rcases Array.mem_or_eq_of_mem_setIfInBounds hv with hv | rfl
    · exact (Array.all_eq_true_iff_forall_mem.1 h.2.2) v hv
    · rfl
theorem Fill.next {cs : Array Value} {k d r : Nat} (hk : Half k d) (h : Fill cs (Done d r)) (hr : 256 ≤ r) (h7 : k < 7) : Fill cs (Done (d / 2) 0) ∧ Half (k + 1) (d / 2) := by
  refine ⟨⟨h.1, fun i hi hp => h.2.1 i hi ?_, h.2.2⟩, ?_⟩
  · unfold Done at hp ⊢
    rcases hk.cases with q | q | q | q | q | q | q | q <;> (obtain ⟨rfl, rfl⟩ := q; omega)
  · obtain ⟨h1, rfl⟩ := hk
    refine ⟨by omega, ?_⟩
    have e : 7 - k = (7 - (k + 1)) + 1 := by omega
    rw [e, Nat.pow_succ]; omega
theorem Fill.last {cs : Array Value} {k d r : Nat} (hk : Half k d) (h : Fill cs (Done d r)) (hr : 256 ≤ r) (h7 : ¬ k < 7) : cs = tabV ∧ d = 1 := by
  have h1 : k = 7 ∧ d = 1 := by rcases hk.cases with q | q | q | q | q | q | q | q <;> omega
  obtain ⟨rfl, rfl⟩ := h1
  refine ⟨?_, rfl⟩
  apply Array.ext_getElem?
  intro i
  rcases Nat.lt_or_ge i 256 with hi | hi
  · rw [h.2.1 i hi (by unfold Done; omega)]
    simp [tabV, hi]
  · rw [Array.getElem?_eq_none (by rw [h.1]; exact hi), Array.getElem?_eq_none (by simp [tabV]; exact hi)]
theorem Half.sum {k d r : Nat} (h : Half k d) (hm : r % (2 * d) = 0) : tab (d + r) = steps (k + 1) 1 ^^^ tab r := by
  obtain ⟨h1, rfl⟩ := h
  refine tab_sum k r h1 ?_
  have e : 8 - k = (7 - k) + 1 := by omega
  rw [e, Nat.pow_succ, Nat.mul_comm]; exact hm
theorem tabV_cell (i : Nat) (h : i < 256) : tabV[i]? = some (cellT i) := by simp [tabV, h]
theorem tabV_size : tabV.size = 256 := by simp [tabV]

theorem zero_table (w : World) : (zeroValue 136).run Try.prog w = .ok (.agg zeros) w := by kernel_rfl
end Go.Proofs.Ytacfmkmiikkppaa.Ca
namespace Go.Proofs.Ytacfmkmiikkppaa.Cb
open Go.ChangeShapes Go.WideShapes Go.ChangeAt Go.RowKit Ga Ma Ca
set_option linter.unusedVariables false
set_option linter.unusedSimpArgs false

theorem under : Try.prog.underlying 136 = some (.array 256 33) := by kernel_rfl
theorem size38 : (Try.prog.info? 136).map (·.size) = some 256 := by kernel_rfl

/-- At the head of the outer loop. -/
def State (k d : Nat) (cs : Array Value) : Prop := (Half k d ∧ Fill cs (Done d 0)) ∨ (d = 0 ∧ cs = tabV)
/-- Two blocks: what will be handed back, and the table. -/
def Two (w wr : World) (cs : Array Value) : Prop :=
  wr.heap[w.heap.size]? = some (.cells zeros 136 (0, 0)) ∧ wr.heap[w.heap.size + 1]? = some (.cells cs 136 (0, 0)) ∧ Below w.heap.size w wr
theorem Two.start (w : World) : Two w ((w.alloc (.cells zeros 136)).alloc (.cells zeros 136)) zeros :=
  ⟨heap_alloc2_old w _ _, heap_alloc2_new w _ _, ((Below.refl _ _).alloc (Nat.le_refl _) _).alloc (by simp) _⟩
theorem Two.cell {w wr : World} {cs : Array Value} (h : Two w wr cs) {i : Nat} {v : Value} (hv : cs[i]? = some v) : wr.cell? ⟨w.heap.size + 1, i, none⟩ = some v :=
  (cell_of_row wr _ i cs _ _ h.2.1).trans hv
theorem Two.free {w wr : World} {cs : Array Value} (h : Two w wr cs) (i : Nat) : wr.frozen? ⟨w.heap.size + 1, i, none⟩ = false := frozen_of_row wr _ i cs _ h.2.1
theorem Two.set {w wr : World} {cs : Array Value} (h : Two w wr cs) (i : Nat) (v : Value) : Two w (wr.setCell ⟨w.heap.size + 1, i, none⟩ v) (cs.setIfInBounds i v) :=
  ⟨(heap_setCell_other wr _ _ v (by simp)).trans h.1, heap_setCell_same wr _ i cs _ v h.2.1, h.2.2.setCell (by simp) _⟩
theorem Two.drew {w wr : World} {cs : Array Value} (h : Two w wr cs) (n : Nat) : Two w (wr.drewN n) cs :=
  ⟨h.1, h.2.1, h.2.2.trans ⟨rfl, rfl, rfl, Nat.le_refl _, fun _ _ => rfl⟩⟩
theorem state_start : State 0 128 zeros := .inl ⟨⟨by decide, by decide⟩, Fill.start⟩
theorem entry (k d r : Nat) (h : Half k d) (hm : r % (2 * d) = 0) (hr : r < 256) : bits .xor .u64 ((steps (k + 1) 1 : Nat) : Int) ((tab r : Nat) : Int) = ((tab (d + r) : Nat) : Int) := by
  rw [h.sum hm]
  exact xor_ _ _ (steps_lt _ (by decide)) (tab_lt (by omega))

theorem tabV_one : tabV.all (·.oneCell') = true := by
  rw [Array.all_eq_true_iff_forall_mem]
  intro v hv
  rw [tabV, Array.mem_ofFn] at hv
  obtain ⟨i, rfl⟩ := hv
  rfl
theorem size_tab : (Try.prog.info? 136).map (·.size) = some tabV.size := by rw [tabV_size]; exact size38
theorem zeros_size : zeros.size = tabV.size := by rw [tabV_size]; simp [zeros]

set_option maxRecDepth 100000 in
theorem news_any (w : World) :
    Calls Try.prog 91 #[] w fun e w' => e = .returned (.agg tabV) ∧ Below w.heap.size w w' := by
  have hz := zero_table
  go_enter Try.func91, Try.ntmps91
  go_wp2_with fail
  go_loopw [2, 3] (fun reg bit wr => ∃ (k d : Nat) (cs : Array Value), d ≤ 128 ∧ bit = .int .i64 d ∧ reg = .int .u64 (steps k 1 : Nat) ∧ Hid (State k d cs) ∧ Hid (Two w wr cs))
    (fun _ bit _ => (intOf bit).toNat)
  case atStart => exact ⟨0, 128, zeros, by omega, rfl, rfl, state_start, Two.start w⟩
  case round =>
    obtain ⟨k, d, cs, hd, rfl, rfl, hs, ht⟩ := hrel
    by_cases h0 : 0 < d
    · have hk : Hid (Half k d) := by
        rcases hs with h | h
        · exact h.1
        · omega
      have hf : Hid (Fill cs (Done d 0)) := by
        rcases hs with h | h
        · exact h.2
        · omega
      clear hs
      have hl : Hid (steps k 1 < 18446744073709551616) := steps_lt k (by decide)
      go_wp2_with (first | (go_at_call 96; refine (step_any _ _ hl.out).mono ?_; rintro e w' ⟨rfl, rfl⟩))
      go_loopw [4] (fun rest wq => ∃ (r : Nat) (cq : Array Value), r ≤ 256 ∧ rest = .int .i64 r ∧ Hid (r % (2 * d) = 0) ∧ Hid (Fill cq (Done d r)) ∧ Hid (Two w wq cq))
        (fun rest _ => (256 - intOf rest).toNat)
      case atStart => exact ⟨0, cs, by omega, rfl, Nat.zero_mod _, hf, ht⟩
      case round =>
        obtain ⟨r, cq, hr, rfl, hm, hg, hw⟩ := hrel
        clear hf ht hl
        by_cases hlt : r < 256
        · obtain ⟨e1, ⟨v, e2⟩, b1, b2, b3⟩ := hg.out.room hk.out hm.out hlt
          have H3 : Hid ((r + 2 * d) % (2 * d) = 0) := b3
          have hx := hw.out.cell e1
          have hy := hw.out.cell e2
          have hz := hw.out.free (d + r)
          unfold cellT at hx
          have HE : Hid (bits .xor .u64 ((one (steps k 1) : Nat) : Int) ((tab r : Nat) : Int) = ((tab (d + r) : Nat) : Int)) := by
            have := entry k d r hk.out hm.out hlt
            rwa [steps_succ] at this
          have HT : Hid (Two w _ _) := hw.out.set (d + r) (cellT (d + r))
          have HF : Hid (Fill _ _) := hg.out.more hk.out hm.out hlt
          clear b3 e1 e2 hg hm hw
          go_wp2
          go_roundw
          case rel =>
            refine ⟨r + 2 * d, _, by omega, by go_num, H3, HF, ?_⟩
            rw [HE.out]; exact HT
          case measure => simp [intOf]; omega
        · obtain rfl : r = 256 := by omega
          by_cases h7 : k < 7
          · obtain ⟨f1, f2⟩ := hg.out.next hk.out (Nat.le_refl _) h7
            have HS : Hid (State (k + 1) (d / 2) cq) := .inl ⟨f2, f1⟩
            have HO : Hid (one (steps k 1) = steps (k + 1) 1) := (steps_succ k 1).symm
            clear f1 f2 hlt hm hg hk h7
            go_wp2
            go_roundw
            case rel => exact ⟨k + 1, d / 2, cq, by omega, by go_num, by rw [HO.out], HS, hw⟩
            case measure => simp [intOf]; omega
          · obtain ⟨rfl, rfl⟩ := hg.out.last hk.out (Nat.le_refl _) h7
            have HS : Hid (State (k + 1) 0 tabV) := .inr ⟨rfl, rfl⟩
            have HO : Hid (one (steps k 1) = steps (k + 1) 1) := (steps_succ k 1).symm
            clear hlt hm hg hk h7
            go_wp2
            go_roundw
            case rel => exact ⟨k + 1, 0, tabV, by omega, by go_num, by rw [HO.out], HS, hw⟩
            case measure => simp [intOf]
    · obtain rfl : d = 0 := by omega
      obtain rfl : cs = tabV := by
        rcases hs with h | h
        · have := h.1.2; have := Nat.two_pow_pos (7 - k); omega
        · exact h.2
      clear hs h0
      go_wp2_with (first
        | refine wpList_load_row rfl 136 _ rfl (w.heap.size + 1) rfl 136 tabV (0, 0) _ ht.out.2.1 under rfl size_tab ?_
        | refine wpList_store_row rfl 136 _ _ rfl w.heap.size tabV rfl rfl 136 zeros ht.out.1 size_tab zeros_size tabV_one ?_)
      exact bodyPost_ret (results_cell_row rfl _ _ w.heap.size 136 tabV (0, 0) _ rfl (setRow_heap _ _ _ _ _ _ ht.out.1) under rfl size_tab) rfl ⟨rfl, below_setRow ht.out.2.2 (Nat.le_refl _) _⟩
end Go.Proofs.Ytacfmkmiikkppaa.Cb
namespace Go.Proofs.Ytacfmkmiikkppaa.Cc
open Go.ChangeShapes Go.WideShapes Go.ChangeAt Go.RowKit Ga Ma Ca Cb
set_option linter.unusedVariables false
set_option linter.unusedSimpArgs false

/-- A block that holds the table. -/
def Tab (w : World) (g : Nat) : Prop := w.heap[g]? = some (.cells tabV 136 (0, 0))
theorem Tab.cell {w : World} {g : Nat} (h : Tab w g) (i : Nat) (hi : i < 256) : w.cell? ⟨g, i, none⟩ = some (.int .u64 ((tab i : Nat) : Int)) :=
  (cell_of_row w g i tabV _ _ h).trans (tabV_cell i hi)
theorem Tab.made {w : World} : Tab ((w.alloc (.cells zeros 136)).setRow w.heap.size tabV) w.heap.size := setRow_heap _ _ _ _ _ _ (heap_alloc_new w _)

theorem shift8 (g : Nat) (r : Nat) (w : World) (hg : Tab w g) (h : r < 18446744073709551616) :
    Calls Try.prog 92 #[.pointer (some ⟨g, 0, none⟩), .int .u64 r] w fun e w' => e = .returned (.int .u64 ((steps 8 r : Nat) : Int)) ∧ w = w' := by
  have := shift_any g r w h (tab (r % 256)) (tab_lt (by omega)) (hg.cell _ (by omega))
  rwa [tab_shift] at this

theorem not_ (s : Nat) (h : s < 18446744073709551616) : bits .xor .u64 IntKind.u64.max (s : Int) = ((s ^^^ ones : Nat) : Int) := by
  rw [Nat.xor_comm]
  exact xor_ ones s (by decide) h

set_option maxRecDepth 100000 in
theorem extend_any (s : Nat) (A : Option Addr) (l : List Nat) (c : Nat) (w : World) (hs : s < 18446744073709551616) (hl : l.length ≤ 5000) (hb : Hid (∀ x ∈ l, x < 256)) (h : Hid (Lies .u8 w w.heap.size A l)) :
    Calls Try.prog 77 #[.int .u64 s, .slice A l.length c] w fun e w' => e = .returned (.int .u64 ((ext s l : Nat) : Int)) ∧ Below w.heap.size w w' := by
  have hz := zero_table
  have hsg : IntKind.u64.signed = false := rfl
  go_enter Try.func77, Try.ntmps77
  go_wp2_with fail
  refine (news_any _).mono ?_
  rintro e w1 ⟨rfl, hb1⟩
  have hB := Lib.hid hb1
  clear hb1
  go_wp2_with (refine wpList_store_row rfl 136 _ _ rfl w1.heap.size tabV rfl rfl 136 zeros (heap_alloc_new _ _) size_tab zeros_size tabV_one ?_)
  have HT := Lib.hid (Tab.made (w := w1))
  have HB : Hid (Below w.heap.size w ((w1.alloc (.cells zeros 136)).setRow w1.heap.size tabV)) := below_setRow (hB.out.alloc hB.out.size _) hB.out.size _
  have HL : Hid (Lies .u8 _ w.heap.size A l) := h.out.below HB.out
  generalize (w1.alloc (.cells zeros 136)).setRow w1.heap.size tabV = W at *
  generalize w1.heap.size = g at *
  clear hB h
  rw [not_ s hs]
  have ho : s ^^^ ones < 18446744073709551616 := Nat.xor_lt_two_pow (n := 64) hs (by decide)
  go_loop [6, 14] (fun reg i => ∃ k : Nat, k ≤ l.length ∧ i = .int .i64 k ∧ reg = .int .u64 (feed (s ^^^ ones) (l.take k) : Nat)) (fun _ i => l.length - (intOf i).toNat)
  case atStart => exact ⟨0, Nat.zero_le _, rfl, rfl⟩
  case round =>
    obtain ⟨k, hk, rfl, rfl⟩ := hrel
    have hr := feed_lt (l.take k) ho (take_lt hb.out k)
    by_cases hlt : k < l.length
    · obtain ⟨ad, rfl, _, hc⟩ := HL.out.at_ hlt
      have hx := getD_lt hb.out hlt
      have HX : Hid (bits .xor .u64 ((feed (s ^^^ ones) (l.take k) : Nat) : Int) ((l.getD k 0 : Nat) : Int) = ((feed (s ^^^ ones) (l.take k) ^^^ l.getD k 0 : Nat) : Int)) := xor_ _ _ hr (by omega)
      have HR : Hid (feed (s ^^^ ones) (l.take k) ^^^ l.getD k 0 < 18446744073709551616) := Nat.xor_lt_two_pow (n := 64) hr (by omega)
      have HS : Hid (steps 8 (feed (s ^^^ ones) (l.take k) ^^^ l.getD k 0) = feed (s ^^^ ones) (l.take (k + 1))) := by rw [take_snoc l k hlt, feed_snoc]; rfl
      generalize l.getD k 0 = x at *
      go_wp2_with (first | (go_at_call 92; rw [HX.out]; refine (shift8 g _ W HT.out HR.out).mono ?_; rintro e w' ⟨rfl, rfl⟩))
      go_round
      case rel => exact ⟨k + 1, by omega, by go_num, by rw [HS.out]⟩
      case measure => simp [intOf]; omega
    · obtain rfl : k = l.length := by omega
      go_wp2
      go_ret
      refine ⟨ret_int ?_, HB.out⟩
      rw [List.take_length] at hr
      rw [not_ _ hr, ext]
theorem bytes_any (A : Option Addr) (l : List Nat) (c : Nat) (w : World) (hl : l.length ≤ 5000) (hb : Hid (∀ x ∈ l, x < 256)) (h : Hid (Lies .u8 w w.heap.size A l)) :
    Calls Try.prog 47 #[.slice A l.length c] w fun e w' => e = .returned (.int .u64 ((crc l : Nat) : Int)) ∧ Below w.heap.size w w' := by
  have C := Lib.hid (extend_any 0 A l c w (by decide) hl hb h)
  go_enter Try.func47, Try.ntmps47
  go_wp2_with (first | (go_at_call 77; refine C.out.mono ?_; rintro e w' ⟨rfl, hB⟩))
  go_ret
  exact ⟨ret_int (by rw [ext_zero]), by assumption⟩
end Go.Proofs.Ytacfmkmiikkppaa.Cc
namespace Go.Proofs.Ytacfmkmiikkppaa.Cd
open Go.ChangeShapes Go.WideShapes Go.ChangeAt Go.RowKit Ga Ma Ca Cb Cc
set_option linter.unusedVariables false
set_option linter.unusedSimpArgs false

set_option maxRecDepth 100000 in
theorem refExtend_any (s : Nat) (A : Option Addr) (l : List Nat) (c : Nat) (w : World) (B : Nat) (hs : s < 18446744073709551616) (hl : l.length ≤ 5000) (hb : Hid (∀ x ∈ l, x < 256)) (HL : Hid (Lies .u8 w B A l)) :
    Calls Try.prog 90 #[.int .u64 s, .slice A l.length c] w fun e w' => e = .returned (.int .u64 ((ext s l : Nat) : Int)) ∧ w = w' := by
  have hsg : IntKind.u64.signed = false := rfl
  go_enter Try.func90, Try.ntmps90
  go_wp2_with fail
  rw [not_ s hs]
  have ho : s ^^^ ones < 18446744073709551616 := Nat.xor_lt_two_pow (n := 64) hs (by decide)
  go_loop [5, 6] (fun reg i => ∃ k : Nat, k ≤ l.length ∧ i = .int .i64 k ∧ reg = .int .u64 (feed (s ^^^ ones) (l.take k) : Nat)) (fun _ i => l.length - (intOf i).toNat)
  case atStart => exact ⟨0, Nat.zero_le _, rfl, rfl⟩
  case round =>
    obtain ⟨k, hk, rfl, rfl⟩ := hrel
    have hr := feed_lt (l.take k) ho (take_lt hb.out k)
    by_cases hlt : k < l.length
    · obtain ⟨ad, rfl, _, hc⟩ := HL.out.at_ hlt
      have hx := getD_lt hb.out hlt
      have HX : Hid (bits .xor .u64 ((feed (s ^^^ ones) (l.take k) : Nat) : Int) ((l.getD k 0 : Nat) : Int) = ((feed (s ^^^ ones) (l.take k) ^^^ l.getD k 0 : Nat) : Int)) := xor_ _ _ hr (by omega)
      have HR : Hid (feed (s ^^^ ones) (l.take k) ^^^ l.getD k 0 < 18446744073709551616) := Nat.xor_lt_two_pow (n := 64) hr (by omega)
      have HS : Hid (steps 8 (feed (s ^^^ ones) (l.take k) ^^^ l.getD k 0) = feed (s ^^^ ones) (l.take (k + 1))) := by rw [take_snoc l k hlt, feed_snoc]; rfl
      generalize l.getD k 0 = x at *
      go_wp2_with fail
      rw [HX.out]
      generalize feed (s ^^^ ones) (l.take k) ^^^ x = y at *
      clear HX hr hx hc HL
      go_loop [5, 7] (fun reg i => ∃ m : Nat, m ≤ 8 ∧ i = .int .i64 m ∧ reg = .int .u64 (steps m y : Nat)) (fun _ i => 8 - (intOf i).toNat)
      case atStart => exact ⟨0, by omega, rfl, rfl⟩
      case round =>
        obtain ⟨m, hm, rfl, rfl⟩ := hrel
        by_cases h8 : m < 8
        · have HM := Lib.hid (steps_lt m HR.out)
          have HO : Hid (one (steps m y) = steps (m + 1) y) := (steps_succ m y).symm
          generalize steps m y = z at *
          go_wp2
          · have hb : (bits .and .u64 (z : Int) 1 == 1) = true := by assumption
            go_round
            case rel => exact ⟨m + 1, by omega, by go_num, by rw [one_yes z HM.out hb, HO.out]⟩
            case measure => simp [intOf]; omega
          · have hb : (bits .and .u64 (z : Int) 1 == 1) = false := by assumption
            go_round
            case rel => exact ⟨m + 1, by omega, by go_num, by rw [one_no z HM.out hb, HO.out]⟩
            case measure => simp [intOf]; omega
        · obtain rfl : m = 8 := by omega
          go_wp2
          go_round
          case rel => exact ⟨k + 1, by omega, by go_num, by rw [HS.out]⟩
          case measure => simp [intOf]; omega
    · obtain rfl : k = l.length := by omega
      go_wp2
      go_ret
      refine ⟨ret_int ?_, rfl⟩
      rw [List.take_length] at hr
      rw [not_ _ hr, ext]
theorem refBytes_any (A : Option Addr) (l : List Nat) (c : Nat) (w : World) (B : Nat) (hl : l.length ≤ 5000) (hb : Hid (∀ x ∈ l, x < 256)) (h : Hid (Lies .u8 w B A l)) :
    Calls Try.prog 76 #[.slice A l.length c] w fun e w' => e = .returned (.int .u64 ((crc l : Nat) : Int)) ∧ w = w' := by
  have C := Lib.hid (refExtend_any 0 A l c w B (by decide) hl hb h)
  go_enter Try.func76, Try.ntmps76
  go_wp2_with (first | (go_at_call 90; refine C.out.mono ?_; rintro e w' ⟨rfl, rfl⟩))
  go_ret
  exact ⟨ret_int (by rw [ext_zero]), rfl⟩
end Go.Proofs.Ytacfmkmiikkppaa.Cd
namespace Go.Proofs.Ytacfmkmiikkppaa.Ce
open Go.ChangeShapes Go.WideShapes Go.ChangeAt Go.RowKit Ga Ma Ca Cb Cc Cd
set_option linter.unusedVariables false
set_option linter.unusedSimpArgs false

def row8 : Array Value := #[.int .u8 0, .int .u8 0, .int .u8 0, .int .u8 0, .int .u8 0, .int .u8 0, .int .u8 0, .int .u8 0]
theorem make8 (w : World) : (Instr.makeSlice 39 (.int .i64 8) (.int .i64 8)).run Try.prog w = .ok (.slice (some ⟨w.heap.size, 0, none⟩) 8 8) (w.alloc (.cells row8 5)) := by kernel_rfl
/-- The first m bytes of x have been laid. -/
structure Laid (x m : Nat) (cs : Array Value) : Prop where
  size : cs.size = 8
  cells : ∀ j, j < m → cs[j]? = some (.int .u8 ((x / 2 ^ (8 * j) % 256 : Nat) : Int))
/-- The call's own row. -/
structure Own (w wr : World) (cs : Array Value) : Prop where
  heap : wr.heap[w.heap.size]? = some (.cells cs 5 (0, 0))
  below : Below w.heap.size w wr
theorem Laid.start (x : Nat) : Laid x 0 row8 := ⟨rfl, fun j hj => by omega⟩
theorem Own.start (w : World) : Own w (w.alloc (.cells row8 5)) row8 := ⟨heap_alloc_new w _, (Below.refl _ _).alloc (Nat.le_refl _) _⟩
theorem Own.cell {w wr : World} {cs : Array Value} (h : Own w wr cs) {i : Nat} {v : Value} (hv : cs[i]? = some v) : wr.cell? ⟨w.heap.size, i, none⟩ = some v :=
  (cell_of_row wr _ i cs _ _ h.heap).trans hv
theorem Own.free {w wr : World} {cs : Array Value} (h : Own w wr cs) (i : Nat) : wr.frozen? ⟨w.heap.size, i, none⟩ = false := frozen_of_row wr _ i cs _ h.heap
theorem Own.set {w wr : World} {cs : Array Value} (h : Own w wr cs) (i : Nat) (v : Value) : Own w (wr.setCell ⟨w.heap.size, i, none⟩ v) (cs.setIfInBounds i v) :=
  ⟨heap_setCell_same wr _ i cs _ v h.heap, h.below.setCell (by simp) _⟩
theorem Laid.more {x m : Nat} {cs : Array Value} (h : Laid x m cs) (hm : m < 8) : Laid x (m + 1) (cs.setIfInBounds m (.int .u8 ((x / 2 ^ (8 * m) % 256 : Nat) : Int))) := by
  refine ⟨by simp [h.size], fun j hj => ?_⟩
  rw [Array.getElem?_setIfInBounds]
  by_cases e : m = j
  · subst e; rw [if_pos rfl, if_pos (by rw [h.size]; exact hm)]
  · rw [if_neg e]; exact h.cells j (by omega)
theorem Laid.has {x m : Nat} {cs : Array Value} (h : Laid x m cs) (hm : m < 8) : ∃ v, cs[m]? = some v := ⟨_, Array.getElem?_eq_getElem (by rw [h.size]; exact hm)⟩
theorem Own.lies {w wr : World} {cs : Array Value} {x : Nat} (h : Own w wr cs) (hl : Laid x 8 cs) : Lies .u8 wr wr.heap.size (some ⟨w.heap.size, 0, none⟩) (little x) := by
  intro _
  refine ⟨_, rfl, ?_, fun j hj => ?_⟩
  · have := h.cell (hl.cells 0 (by omega)); exact block_lt_of_cell this
  · have hj8 : j < 8 := by simpa [little] using hj
    have hadd : (⟨w.heap.size, 0, none⟩ : Addr).add j = ⟨w.heap.size, j, none⟩ := by unfold Addr.add; split <;> simp_all
    rw [hadd, h.cell (hl.cells j hj8)]
    have : (little x).getD j 0 = x / 2 ^ (8 * j) % 256 := by simp [little, hj8]
    rw [this]

/-- What Little hands back. -/
def Eight (x : Nat) (w : World) (e : Ending) (w' : World) : Prop :=
  e = .returned (.slice (some ⟨w.heap.size, 0, none⟩) 8 8) ∧ Lies .u8 w' w'.heap.size (some ⟨w.heap.size, 0, none⟩) (little x) ∧ Below w.heap.size w w'
set_option maxRecDepth 100000 in
theorem little_any (x : Nat) (w : World) (hx : x < 18446744073709551616) :
    Calls Try.prog 75 #[.int .u64 x] w (Eight x w) := by
  have hmk := make8
  go_enter Try.func75, Try.ntmps75
  go_wp2_with fail
  go_loopw [4] (fun i wr => ∃ (m : Nat) (cs : Array Value), m ≤ 8 ∧ i = .int .i64 m ∧ Laid x m cs ∧ Own w wr cs) (fun i _ => 8 - (intOf i).toNat)
  case atStart => exact ⟨0, row8, by omega, rfl, Laid.start x, Own.start w⟩
  case round =>
    obtain ⟨m, cs, hm, rfl, hl, ho⟩ := hrel
    by_cases h8 : m < 8
    · obtain ⟨v, hv⟩ := hl.has h8
      have hc := ho.cell hv
      have hf := ho.free m
      clear hv
      have HL : Lk (Laid x (m + 1) (cs.setIfInBounds m (.int .u8 ((x / 2 ^ (8 * m) % 256 : Nat) : Int)))) := ⟨hl.more h8⟩
      have HO : Lk (Own w _ (cs.setIfInBounds m (.int .u8 ((x / 2 ^ (8 * m) % 256 : Nat) : Int)))) := ⟨ho.set m _⟩
      have HE : Lk (((x / 2 ^ (8 * m) % 256 : Nat) : Int) = (x : Int) / 2 ^ (8 * m) % 256) := ⟨by simp⟩
      go_wp2
      go_roundw
      case rel => exact ⟨m + 1, _, by omega, by go_num, HL.out, by rw [← HE.out]; exact HO.out⟩
      case measure => simp [intOf]; omega
    · obtain rfl : m = 8 := by omega
      go_wp2
      go_ret
      exact ⟨rfl, ho.lies hl, ho.below⟩

theorem refExtend_n (s : Nat) (A : Option Addr) (l : List Nat) (n c : Nat) (w : World) (B : Nat) (hn : l.length = n) (hs : s < 18446744073709551616) (hl : n ≤ 5000) (hb : Hid (∀ x ∈ l, x < 256)) (h : Hid (Lies .u8 w B A l)) :
    Calls Try.prog 90 #[.int .u64 s, .slice A n c] w fun e w' => e = .returned (.int .u64 ((ext s l : Nat) : Int)) ∧ w = w' := by
  subst hn; exact refExtend_any s A l c w B hs hl hb h
theorem little_len (x : Nat) : (little x).length = 8 := by simp [little]
end Go.Proofs.Ytacfmkmiikkppaa.Ce
