/-
  Plain mathematics of CRC-64/XZ over natural numbers: the register's step is linear, a message is one great number, a burst of at most 64 bits is never lost.
-/
namespace Go.Proofs.Ytdodigfojbijfaa.Ma

def poly : Nat := 14514072000185962306
def one (r : Nat) : Nat := if r % 2 = 1 then r / 2 ^^^ poly else r / 2
def steps : Nat → Nat → Nat
  | 0, r => r
  | n + 1, r => steps n (one r)

theorem xor_xor_same (a b : Nat) : (a ^^^ b) ^^^ b = a := by rw [Nat.xor_assoc, Nat.xor_self, Nat.xor_zero]
theorem xor_four (a b c d : Nat) : (a ^^^ b) ^^^ (c ^^^ d) = (a ^^^ c) ^^^ (b ^^^ d) := by
  rw [Nat.xor_assoc, ← Nat.xor_assoc b, Nat.xor_comm b c, Nat.xor_assoc c, ← Nat.xor_assoc]
theorem xor_cancel {a b c : Nat} (h : a ^^^ c = b ^^^ c) : a = b := by
  have := congrArg (· ^^^ c) h
  simpa [xor_xor_same] using this
theorem xor_eq_zero {a b : Nat} (h : a ^^^ b = 0) : a = b := by
  apply xor_cancel (c := b); rw [h, Nat.xor_self]

theorem step_zero : one 0 = 0 := by decide
theorem step_xor (a b : Nat) : one (a ^^^ b) = one a ^^^ one b := by
  have hm : (a ^^^ b) % 2 = (a % 2 + b % 2) % 2 := by
    have := Nat.xor_mod_two_eq_one (a := a) (b := b)
    omega
  have hd : (a ^^^ b) / 2 = a / 2 ^^^ b / 2 := Nat.xor_div_two
  unfold one
  rw [hm, hd]
  rcases Nat.mod_two_eq_zero_or_one a with ha | ha <;> rcases Nat.mod_two_eq_zero_or_one b with hb | hb <;> simp [ha, hb]
  · rw [Nat.xor_assoc]
  · rw [Nat.xor_assoc, Nat.xor_assoc, Nat.xor_comm (b / 2)]
  · rw [xor_four, Nat.xor_self, Nat.xor_zero]
theorem step_two (x : Nat) : one (2 * x) = x := by unfold one; rw [if_neg (by omega)]; omega
theorem step_lt {r : Nat} (h : r < 18446744073709551616) : one r < 18446744073709551616 := by
  unfold one
  split
  · exact Nat.xor_lt_two_pow (n := 64) (by omega) (by decide)
  · omega
theorem step_ne {r : Nat} (h : r < 18446744073709551616) (h0 : r ≠ 0) : one r ≠ 0 := by
  unfold one
  split
  · intro e
    have := xor_eq_zero e
    unfold poly at this
    omega
  · omega

theorem steps_zero (n : Nat) : steps n 0 = 0 := by
  induction n with
  | zero => rfl
  | succ n ih => rw [steps, step_zero, ih]
theorem steps_xor (n a b : Nat) : steps n (a ^^^ b) = steps n a ^^^ steps n b := by
  induction n generalizing a b with
  | zero => rfl
  | succ n ih => rw [steps, steps, steps, step_xor, ih]
theorem steps_add (n m r : Nat) : steps (n + m) r = steps m (steps n r) := by
  induction n generalizing r with
  | zero => rw [Nat.zero_add]; rfl
  | succ n ih => rw [Nat.succ_add, steps, steps, ih]
theorem steps_succ (n r : Nat) : steps (n + 1) r = one (steps n r) := steps_add n 1 r
theorem steps_mul (n x : Nat) : steps n (2 ^ n * x) = x := by
  induction n generalizing x with
  | zero => simp [steps]
  | succ n ih => rw [steps, Nat.pow_succ, Nat.mul_comm (2 ^ n) 2, Nat.mul_assoc, step_two, ih]
theorem steps_lt (n : Nat) {r : Nat} (h : r < 18446744073709551616) : steps n r < 18446744073709551616 := by
  induction n generalizing r with
  | zero => exact h
  | succ n ih => exact ih (step_lt h)
theorem steps_ne (n : Nat) {r : Nat} (h : r < 18446744073709551616) (h0 : r ≠ 0) : steps n r ≠ 0 := by
  induction n generalizing r with
  | zero => exact h0
  | succ n ih => exact ih (step_lt h) (step_ne h h0)

/-- A number is its high part and its low part. -/
theorem split_xor (n r : Nat) : r = 2 ^ n * (r / 2 ^ n) ^^^ r % 2 ^ n := by
  apply Nat.eq_of_testBit_eq
  intro i
  rw [Nat.testBit_xor, Nat.testBit_two_pow_mul, Nat.testBit_mod_two_pow, Nat.testBit_div_two_pow]
  by_cases h : n ≤ i
  · simp [h, Nat.not_lt.mpr h]
  · simp [h, Nat.lt_of_not_le h]
theorem add_xor {n a b : Nat} (h : b < 2 ^ n) : 2 ^ n * a ^^^ b = 2 ^ n * a + b := by
  have := split_xor n (2 ^ n * a + b)
  rw [Nat.mul_add_div (Nat.two_pow_pos n), Nat.div_eq_of_lt h, Nat.add_zero, Nat.mul_add_mod, Nat.mod_eq_of_lt h] at this
  exact this.symm
theorem steps_split (n r : Nat) : steps n r = r / 2 ^ n ^^^ steps n (r % 2 ^ n) := by
  conv => lhs; rw [split_xor n r, steps_xor, steps_mul]
theorem eight (r : Nat) : steps 8 r = r / 256 ^^^ steps 8 (r % 256) := steps_split 8 r

theorem mul_xor (n a b : Nat) : 2 ^ n * (a ^^^ b) = 2 ^ n * a ^^^ 2 ^ n * b := by
  apply Nat.eq_of_testBit_eq
  intro i
  rw [Nat.testBit_xor, Nat.testBit_two_pow_mul, Nat.testBit_two_pow_mul, Nat.testBit_two_pow_mul, Nat.testBit_xor]
  by_cases hi : n ≤ i <;> simp [hi]

/-- A message of bytes, the first byte lowest. -/
def num : List Nat → Nat
  | [] => 0
  | x :: l => x + 256 * num l
def feed (r : Nat) (l : List Nat) : Nat := l.foldl (fun r x => steps 8 (r ^^^ x)) r
theorem feed_num (l : List Nat) (r : Nat) (h : ∀ x ∈ l, x < 256) : feed r l = steps (8 * l.length) (r ^^^ num l) := by
  induction l generalizing r with
  | nil => simp [feed, num, steps]
  | cons x l ih =>
    have hx : x < 2 ^ 8 := h x (by simp)
    have := ih (steps 8 (r ^^^ x)) (fun y hy => h y (by simp [hy]))
    unfold feed at this ⊢
    rw [List.foldl_cons, this, List.length_cons, Nat.mul_succ, Nat.add_comm _ 8, steps_add]
    congr 1
    have e : num (x :: l) = 2 ^ 8 * num l ^^^ x := by rw [add_xor hx, num]; omega
    rw [e, Nat.xor_comm (2 ^ 8 * num l) x, ← Nat.xor_assoc, steps_xor 8 (r ^^^ x), steps_mul]
theorem feed_append (r : Nat) (a b : List Nat) : feed r (a ++ b) = feed (feed r a) b := by simp [feed]
theorem feed_snoc (r : Nat) (a : List Nat) (x : Nat) : feed r (a ++ [x]) = steps 8 (feed r a ^^^ x) := by simp [feed]
theorem feed_lt (l : List Nat) {r : Nat} (hr : r < 18446744073709551616) (h : ∀ x ∈ l, x < 256) : feed r l < 18446744073709551616 := by
  induction l generalizing r with
  | nil => exact hr
  | cons x l ih =>
    exact ih (steps_lt 8 (Nat.xor_lt_two_pow (n := 64) hr (by have := h x (by simp); omega))) (fun y hy => h y (by simp [hy]))

def ones : Nat := 18446744073709551615
def crc (l : List Nat) : Nat := feed ones l ^^^ ones
def ext (s : Nat) (l : List Nat) : Nat := feed (s ^^^ ones) l ^^^ ones
theorem ext_zero (l : List Nat) : ext 0 l = crc l := by simp [ext, crc]
theorem ext_ext (s : Nat) (a b : List Nat) : ext (ext s a) b = ext s (a ++ b) := by
  unfold ext; rw [xor_xor_same, feed_append]
theorem ext_crc (a b : List Nat) : ext (crc a) b = crc (a ++ b) := by rw [← ext_zero, ext_ext, ext_zero]
theorem ext_nil (s : Nat) : ext s [] = s := by simp [ext, feed, xor_xor_same]
theorem ext_lt {s : Nat} (hs : s < 18446744073709551616) {l : List Nat} (h : ∀ x ∈ l, x < 256) : ext s l < 18446744073709551616 :=
  Nat.xor_lt_two_pow (n := 64) (feed_lt l (Nat.xor_lt_two_pow (n := 64) hs (by decide)) h) (by decide)

/-- The eight bytes of a word. -/
def little (w : Nat) : List Nat := (List.range 8).map fun i => w / 2 ^ (8 * i) % 256
theorem num_little {w : Nat} (h : w < 18446744073709551616) : num (little w) = w := by
  simp [little, List.range, List.range.loop, num]
  omega
theorem little_lt (w : Nat) : ∀ x ∈ little w, x < 256 := by
  intro x hx
  simp [little] at hx
  obtain ⟨i, _, rfl⟩ := hx
  omega
theorem feed_little {w : Nat} (h : w < 18446744073709551616) (r : Nat) : feed r (little w) = steps 64 (r ^^^ w) := by
  rw [feed_num _ _ (little_lt w), num_little h]
  simp [little]

def bytesOf (l : List Nat) : List Nat := l.flatMap little
theorem bytesOf_lt (l : List Nat) : ∀ x ∈ bytesOf l, x < 256 := by
  intro x hx
  simp [bytesOf] at hx
  obtain ⟨w, _, h⟩ := hx
  exact little_lt w x h

theorem num_xor : ∀ (a b : List Nat), a.length = b.length → (∀ x ∈ a, x < 256) → (∀ x ∈ b, x < 256) →
    num (List.zipWith (· ^^^ ·) a b) = num a ^^^ num b
  | [], [], _, _, _ => rfl
  | x :: a, y :: b, h, h1, h2 => by
    have ih := num_xor a b (by simpa using h) (fun z hz => h1 z (by simp [hz])) (fun z hz => h2 z (by simp [hz]))
    have hx : x < 2 ^ 8 := h1 x (by simp)
    have hy : y < 2 ^ 8 := h2 y (by simp)
    have e : ∀ (z n : Nat), z < 2 ^ 8 → z + 256 * n = 2 ^ 8 * n ^^^ z := fun z n hz => by rw [add_xor hz]; omega
    rw [List.zipWith_cons_cons, num, num, num, ih, e _ _ (Nat.xor_lt_two_pow hx hy), e _ _ hx, e _ _ hy, xor_four]
    rw [mul_xor]
theorem zw_lt {a b : List Nat} (h1 : ∀ x ∈ a, x < 256) (h2 : ∀ x ∈ b, x < 256) : ∀ x ∈ List.zipWith (· ^^^ ·) a b, x < 256 := by
  intro x hx
  obtain ⟨i, hi, rfl⟩ := List.getElem_of_mem hx
  rw [List.getElem_zipWith]
  exact Nat.xor_lt_two_pow (n := 8) (h1 _ (List.getElem_mem _)) (h2 _ (List.getElem_mem _))
theorem crc_linear {a b c : List Nat} (hab : a.length = b.length) (hac : a.length = c.length) (h1 : ∀ x ∈ a, x < 256) (h2 : ∀ x ∈ b, x < 256) (h3 : ∀ x ∈ c, x < 256) :
    crc (List.zipWith (· ^^^ ·) (List.zipWith (· ^^^ ·) a b) c) = crc a ^^^ crc b ^^^ crc c := by
  unfold crc
  rw [feed_num _ _ (zw_lt (zw_lt h1 h2) h3), feed_num _ _ h1, feed_num _ _ h2, feed_num _ _ h3,
    num_xor _ _ (by simp; omega) (zw_lt h1 h2) h3, num_xor _ _ hab h1 h2]
  have e : (List.zipWith (· ^^^ ·) (List.zipWith (· ^^^ ·) a b) c).length = a.length := by simp; omega
  rw [e, ← hab, ← hac]
  simp only [steps_xor]
  generalize steps (8 * a.length) ones = o
  generalize steps (8 * a.length) (num a) = x
  generalize steps (8 * a.length) (num b) = y
  generalize steps (8 * a.length) (num c) = z
  apply Nat.eq_of_testBit_eq
  intro i
  simp only [Nat.testBit_xor]
  cases o.testBit i <;> cases x.testBit i <;> cases y.testBit i <;> cases z.testBit i <;> cases ones.testBit i <;> rfl

/-- Bursts. -/
theorem num_flip (l : List Nat) (q s : Nat) (hq : q < l.length) (hs : s < 8) (h : ∀ x ∈ l, x < 256) :
    num (l.set q (l.getD q 0 ^^^ 2 ^ s)) = num l ^^^ 2 ^ (8 * q + s) := by
  have e : ∀ (z n : Nat), z < 2 ^ 8 → z + 256 * n = 2 ^ 8 * n ^^^ z := fun z n hz => by rw [add_xor hz]; omega
  have h8 : 2 ^ s < 2 ^ 8 := Nat.pow_lt_pow_right (by decide) hs
  induction l generalizing q with
  | nil => simp at hq
  | cons x l ih =>
    have hx : x < 2 ^ 8 := h x (by simp)
    cases q with
    | zero =>
      simp only [List.set_cons_zero, List.getD_cons_zero, num]
      rw [e _ _ (Nat.xor_lt_two_pow hx h8), e _ _ hx, Nat.xor_assoc]
      simp
    | succ q =>
      simp only [List.set_cons_succ, List.getD_cons_succ, num]
      rw [ih q (by simpa using hq) (fun y hy => h y (by simp [hy])), e _ _ hx, e _ _ hx, mul_xor, ← Nat.pow_add, Nat.xor_assoc, Nat.xor_comm _ x, ← Nat.xor_assoc]
      congr 2
      omega
theorem flip_lt {l : List Nat} {q s : Nat} (hs : s < 8) (h : ∀ x ∈ l, x < 256) : ∀ x ∈ l.set q (l.getD q 0 ^^^ 2 ^ s), x < 256 := by
  intro x hx
  rcases List.mem_or_eq_of_mem_set hx with hx | rfl
  · exact h x hx
  · have h8 : 2 ^ s < 2 ^ 8 := Nat.pow_lt_pow_right (by decide) hs
    refine Nat.xor_lt_two_pow (n := 8) ?_ h8
    rw [List.getD_eq_getElem?_getD]
    rcases Nat.lt_or_ge q l.length with hq | hq
    · rw [List.getElem?_eq_getElem hq]; exact h _ (List.getElem_mem _)
    · rw [List.getElem?_eq_none hq]; decide
theorem mod_bit (p i : Nat) : p % 2 ^ (i + 1) = p % 2 ^ i ^^^ (if p / 2 ^ i % 2 = 1 then 2 ^ i else 0) := by
  apply Nat.eq_of_testBit_eq
  intro j
  rw [Nat.testBit_xor, Nat.testBit_mod_two_pow, Nat.testBit_mod_two_pow]
  have hb : p.testBit i = decide (p / 2 ^ i % 2 = 1) := by rw [Nat.testBit_eq_decide_div_mod_eq]
  by_cases hp : p / 2 ^ i % 2 = 1
  · rw [if_pos hp, Nat.testBit_two_pow]
    rcases Nat.lt_trichotomy j i with h | h | h
    · simp [h, Nat.lt_succ_of_lt h, Nat.ne_of_gt h]
    · subst h; simp [hb, hp]
    · simp [Nat.not_lt.mpr (Nat.le_of_lt h), Nat.not_lt.mpr (Nat.succ_le_of_lt h), Nat.ne_of_lt h]
  · rw [if_neg hp, Nat.zero_testBit]
    rcases Nat.lt_trichotomy j i with h | h | h
    · simp [h, Nat.lt_succ_of_lt h]
    · subst h; simp [hb, hp]
    · simp [Nat.not_lt.mpr (Nat.le_of_lt h), Nat.not_lt.mpr (Nat.succ_le_of_lt h)]
/-- What has been turned after i rounds. -/
def Turned (l : List Nat) (t p : Nat) (i : Nat) (m : List Nat) : Prop :=
  m.length = l.length ∧ (∀ x ∈ m, x < 256) ∧ num m = num l ^^^ 2 ^ t * (p % 2 ^ i)
theorem Turned.start {l : List Nat} {t p : Nat} (h : ∀ x ∈ l, x < 256) : Turned l t p 0 l := ⟨rfl, h, by simp [Nat.mod_one]⟩
theorem Turned.no {l m : List Nat} {t p i : Nat} (h : Turned l t p i m) (hp : p / 2 ^ i % 2 ≠ 1) : Turned l t p (i + 1) m :=
  ⟨h.1, h.2.1, by rw [h.2.2, mod_bit, if_neg hp, Nat.xor_zero]⟩
theorem Turned.yes {l m : List Nat} {t p i : Nat} (h : Turned l t p i m) (hp : p / 2 ^ i % 2 = 1) (hq : (t + i) / 8 < m.length) :
    Turned l t p (i + 1) (m.set ((t + i) / 8) (m.getD ((t + i) / 8) 0 ^^^ 2 ^ ((t + i) % 8))) :=
  ⟨by rw [List.length_set, h.1], flip_lt (Nat.mod_lt _ (by decide)) h.2.1, by
    rw [num_flip _ _ _ hq (Nat.mod_lt _ (by decide)) h.2.1, h.2.2, mod_bit, if_pos hp, mul_xor, ← Nat.pow_add, Nat.xor_assoc]
    congr 3
    omega⟩
theorem Turned.differ {l m : List Nat} {t p : Nat} (h : Turned l t p 64 m) (hl : ∀ x ∈ l, x < 256) (ht : t + 64 ≤ 8 * l.length) (h0 : p ≠ 0) (hp : p < 18446744073709551616) : crc m ≠ crc l := by
  intro e
  have e1 := xor_cancel e
  rw [feed_num _ _ h.2.1, feed_num _ _ hl, h.1, h.2.2, Nat.mod_eq_of_lt (show p < 2 ^ 64 by omega), ← Nat.xor_assoc, steps_xor] at e1
  have e2 : steps (8 * l.length) (2 ^ t * p) = 0 := by
    have := congrArg (steps (8 * l.length) (ones ^^^ num l) ^^^ ·) e1
    simpa [← Nat.xor_assoc] using this
  have e3 : 8 * l.length = t + (8 * l.length - t) := by omega
  rw [e3, steps_add, steps_mul] at e2
  exact steps_ne _ hp h0 e2

/-- The table. -/
def tab (i : Nat) : Nat := steps 8 i
theorem tab_bit (k : Nat) (hk : k ≤ 7) : tab (2 ^ (7 - k)) = steps (k + 1) 1 := by
  unfold tab
  have e : 8 = (7 - k) + (k + 1) := by omega
  rw [e, steps_add]
  have := steps_mul (7 - k) 1
  rw [Nat.mul_one] at this
  have e2 : 7 - k + (k + 1) - (k + 1) = 7 - k := by omega
  have e3 : 2 ^ (7 - k) = 2 ^ (7 - k + (k + 1) - (k + 1)) := by rw [e2]
  rw [this]
theorem tab_sum (k r : Nat) (hk : k ≤ 7) (hr : r % 2 ^ (8 - k) = 0) : tab (2 ^ (7 - k) + r) = steps (k + 1) 1 ^^^ tab r := by
  have hr' : r = 2 ^ (8 - k) * (r / 2 ^ (8 - k)) := by have := Nat.div_add_mod r (2 ^ (8 - k)); omega
  have hlt : 2 ^ (7 - k) < 2 ^ (8 - k) := Nat.pow_lt_pow_right (by decide) (by omega)
  have e : 2 ^ (7 - k) + r = r ^^^ 2 ^ (7 - k) := by
    conv => rhs; rw [hr', add_xor hlt]
    rw [← hr']; omega
  rw [e, ← tab_bit k hk]
  unfold tab
  rw [steps_xor, Nat.xor_comm]
theorem tab_lt {i : Nat} (h : i < 18446744073709551616) : tab i < 18446744073709551616 := steps_lt 8 h
theorem tab_shift (r : Nat) : r / 256 ^^^ tab (r % 256) = steps 8 r := (eight r).symm

end Go.Proofs.Ytdodigfojbijfaa.Ma
