/-
  Plain mathematics of bodies: which record their words announce, and that one changed word is seen by the checksum.
-/
import Derived.Test.YtdodigfojbijfaaRk
namespace Go.Proofs.Ytdodigfojbijfaa.Rn
open Go.ChangeShapes Go.WideShapes Go.ChangeAt Go.RowKit Ga Gb Ma Ra Rb Rc Rd Re Rf Rg Rh Ri Rj Rk
set_option linter.unusedVariables false
set_option linter.unusedSimpArgs false
set_option maxRecDepth 10000
set_option maxHeartbeats 1000000

theorem wd_left {a c : List Nat} {i : Nat} (h : i < a.length) : wd (a ++ c) i = wd a i := by
  unfold wd
  rw [List.getD_eq_getElem?_getD, List.getD_eq_getElem?_getD, List.getElem?_append_left h]
theorem wd_right {a c : List Nat} {i : Nat} : wd (a ++ c) (a.length + i) = wd c i := by
  unfold wd
  rw [List.getD_eq_getElem?_getD, List.getD_eq_getElem?_getD, List.getElem?_append_right (by omega)]
  congr 2; omega
theorem wd_cons {x : Nat} {c : List Nat} {i : Nat} : wd (x :: c) (i + 1) = wd c i := by simp [wd]
theorem wd_flat (l : List Pg) : ∀ (i j : Nat), i < l.length → j < 9 → wd (l.flatMap pw) (i * 9 + j) = wd (pw (l.getD i pz)) j := by
  induction l with
  | nil => intro i j h; simp at h
  | cons p l ih =>
    intro i j hi hj
    rw [List.flatMap_cons]
    cases i with
    | zero => rw [Nat.zero_mul, Nat.zero_add, wd_left (by rw [pw_len]; exact hj)]; rfl
    | succ i =>
      rw [show (i + 1) * 9 + j = (pw p).length + (i * 9 + j) by rw [pw_len]; omega, wd_right, ih i j (by simpa using hi) hj]
      rfl
theorem wd_heads (s : Int) (l : List Pg) (i : Nat) : wd (heads s l) (2 + i) = wd (l.flatMap pw) i := wd_right (a := [s.toNat, l.length])
theorem unp_body {s : Int} {l : List Pg} (hv : validR s l 256 = 0) (more : List Nat) : okL (bodyW s l ++ more) ∧ unpS (bodyW s l ++ more) = s ∧ unpL (bodyW s l ++ more) = l := by
  obtain ⟨_, h2, h3, h4, _, _⟩ := valid_zero hv
  have hh : ∀ i, i < 2 + 9 * l.length → wd (bodyW s l ++ more) i = wd (heads s l) i := fun i hi => by
    rw [wd_left (by rw [bodyW_len]; omega), bodyW, wd_left (by rw [heads_len]; omega)]
  have w0 : wd (bodyW s l ++ more) 0 = s.toNat := hh 0 (by omega)
  have w1 : wd (bodyW s l ++ more) 1 = l.length := hh 1 (by omega)
  have hok : okL (bodyW s l ++ more) := ⟨by rw [List.length_append, bodyW_len]; omega, by rw [w1]; omega, by rw [w1, List.length_append, bodyW_len]; omega⟩
  refine ⟨hok, ?_, ?_⟩
  · rw [unpS, if_pos hok, w0, i64w_small (by omega)]; omega
  · rw [unpL, if_pos hok, w1]
    refine List.ext_getElem (by rw [pgsU_len]) fun i hi1 hi2 => ?_
    have hp := h4 _ (List.getElem_mem hi2)
    have e : l.getD i pz = l[i] := by rw [List.getD_eq_getElem?_getD, List.getElem?_eq_getElem hi2]; rfl
    have hw : ∀ j, j < 9 → wd (bodyW s l ++ more) (2 + i * 9 + j) = wd (pw l[i]) j := fun j hj => by
      rw [hh _ (by omega), Nat.add_assoc, wd_heads, wd_flat l i j hi2 hj, e]
    simp only [pgsU, List.getElem_map, List.getElem_range, pgAt]
    rw [hw 1 (by decide), hw 2 (by decide), hw 3 (by decide), hw 4 (by decide), hw 5 (by decide), hw 6 (by decide), hw 7 (by decide), hw 8 (by decide)]
    have h0 := hw 0 (by decide)
    rw [Nat.add_zero] at h0
    rw [h0]
    generalize l[i] = p at *
    have : i64w (wd (pw p) 0) = p.line := by
      rw [show wd (pw p) 0 = p.line.toNat from rfl, i64w_small (by omega)]; omega
    rw [this]
    rfl
theorem parse_body {s : Int} {l : List Pg} (hv : validR s l 256 = 0) (more : List Nat) (lines : Int) :
    parseE (bodyW s l ++ more) lines = if nodeB lines = true then (if validR s l lines = 0 then 0 else 14) else 18 := by
  obtain ⟨_, e1, e2⟩ := unp_body hv more
  rw [parseE, e1, e2]
  have ht : bodyW s l = (bodyW s l ++ more).take (3 + 9 * l.length) := by rw [← bodyW_len s l, List.take_left]
  split
  · by_cases h : validR s l lines = 0
    · rw [if_pos ⟨h, ht⟩, if_pos h]
    · rw [if_neg (fun h' => h h'.1), if_neg h]
  · rfl

/-- The register over whole words, by any step. -/
def feedG (f : Nat → Nat) : Nat → List Nat → Nat
  | r, [] => r
  | r, x :: l => feedG f (f (r ^^^ x)) l
theorem feedG_append (f : Nat → Nat) : ∀ (r : Nat) (a b : List Nat), feedG f r (a ++ b) = feedG f (feedG f r a) b
  | r, [], b => rfl
  | r, x :: a, b => feedG_append f (f (r ^^^ x)) a b
theorem feedG_lt (f : Nat → Nat) (hl : ∀ x, x < 18446744073709551616 → f x < 18446744073709551616) : ∀ (l : List Nat), (∀ x ∈ l, x < 18446744073709551616) → ∀ r, r < 18446744073709551616 → feedG f r l < 18446744073709551616
  | [], _, r, hr => hr
  | x :: l, h, r, hr => feedG_lt f hl l (fun y hy => h y (by simp [hy])) _ (hl _ (Nat.xor_lt_two_pow (n := 64) hr (h x (by simp))))
theorem feedG_inj (f : Nat → Nat) (hl : ∀ x, x < 18446744073709551616 → f x < 18446744073709551616) (hj : ∀ a b, a < 18446744073709551616 → b < 18446744073709551616 → f a = f b → a = b) : ∀ (l : List Nat), (∀ x ∈ l, x < 18446744073709551616) → ∀ r t, r < 18446744073709551616 → t < 18446744073709551616 → feedG f r l = feedG f t l → r = t
  | [], _, r, t, _, _, e => e
  | x :: l, h, r, t, hr, ht, e => by
    have hx := h x (by simp)
    have := feedG_inj f hl hj l (fun y hy => h y (by simp [hy])) _ _ (hl _ (Nat.xor_lt_two_pow (n := 64) hr hx)) (hl _ (Nat.xor_lt_two_pow (n := 64) ht hx)) e
    exact xor_cancel (hj _ _ (Nat.xor_lt_two_pow (n := 64) hr hx) (Nat.xor_lt_two_pow (n := 64) ht hx) this)
theorem set_split {l : List Nat} {k x : Nat} (h : k < l.length) : l.set k x = l.take k ++ x :: l.drop (k + 1) ∧ l = l.take k ++ wd l k :: l.drop (k + 1) := by
  constructor
  · rw [List.set_eq_take_append_cons_drop, if_pos h]
  · have := (List.take_append_drop k l).symm
    rw [List.drop_eq_getElem_cons h] at this
    rw [show wd l k = l[k] from by unfold wd; rw [List.getD_eq_getElem?_getD, List.getElem?_eq_getElem h]; rfl]
    exact this
theorem feedG_set (f : Nat → Nat) (hl : ∀ x, x < 18446744073709551616 → f x < 18446744073709551616) (hj : ∀ a b, a < 18446744073709551616 → b < 18446744073709551616 → f a = f b → a = b) {l : List Nat} (h : ∀ x ∈ l, x < 18446744073709551616) {k x r : Nat} (hr : r < 18446744073709551616) (hk : k < l.length) (hx : x < 18446744073709551616) (e : feedG f r (l.set k x) = feedG f r l) : x = wd l k := by
  obtain ⟨e1, e2⟩ := set_split (x := x) hk
  have ht : ∀ y ∈ l.take k, y < 18446744073709551616 := fun y hy => h y (List.mem_of_mem_take hy)
  have hd : ∀ y ∈ l.drop (k + 1), y < 18446744073709551616 := fun y hy => h y (List.mem_of_mem_drop hy)
  have hw : wd l k < 18446744073709551616 := wd_lt h k
  rw [e1] at e
  rw [show feedG f r l = feedG f r (l.take k ++ wd l k :: l.drop (k + 1)) from by rw [← e2]] at e
  rw [feedG_append, feedG_append] at e
  have hz := feedG_lt f hl _ ht r hr
  generalize feedG f r (l.take k) = z at *
  have e4 := feedG_inj f hl hj _ hd _ _ (hl _ (Nat.xor_lt_two_pow (n := 64) hz hx)) (hl _ (Nat.xor_lt_two_pow (n := 64) hz hw)) e
  have e5 := hj _ _ (Nat.xor_lt_two_pow (n := 64) hz hx) (Nat.xor_lt_two_pow (n := 64) hz hw) e4
  rw [Nat.xor_comm z, Nat.xor_comm z] at e5
  exact xor_cancel e5
theorem feedG_bytes (f : Nat → Nat) (hf : ∀ r x, x < 18446744073709551616 → feed r (little x) = f (r ^^^ x)) : ∀ (l : List Nat), (∀ x ∈ l, x < 18446744073709551616) → ∀ r, feed r (bytesOf l) = feedG f r l
  | [], _, r => rfl
  | x :: l, h, r => by
    have e : bytesOf (x :: l) = little x ++ bytesOf l := by simp [bytesOf]
    rw [e, feed_append, hf r x (h x (by simp)), feedG_bytes f hf l (fun y hy => h y (by simp [hy]))]
    rfl
theorem steps_inj (n : Nat) (a b : Nat) (ha : a < 18446744073709551616) (hb : b < 18446744073709551616) (h : steps n a = steps n b) : a = b := by
  by_cases e : a = b
  · exact e
  · have h0 : a ^^^ b ≠ 0 := fun h => e (xor_eq_zero h)
    have := steps_ne n (Nat.xor_lt_two_pow (n := 64) ha hb) h0
    rw [steps_xor, h, Nat.xor_self] at this
    exact absurd rfl this
theorem crcW_feed {l : List Nat} (h : ∀ x ∈ l, x < 18446744073709551616) (n : Nat) (hn : n = 64) : Cf.crcW l = feedG (steps n) ones l ^^^ ones := by
  rw [Cf.crcW, crc, feedG_bytes (steps n) (fun r x hx => by rw [hn]; exact feed_little hx r) l h]
/-- One changed word changes the checksum. -/
theorem crcW_set {l : List Nat} (h : ∀ x ∈ l, x < 18446744073709551616) {k x : Nat} (hk : k < l.length) (hx : x < 18446744073709551616) (e : Cf.crcW (l.set k x) = Cf.crcW l) : x = wd l k := by
  obtain ⟨n, hn⟩ : ∃ n, n = 64 := ⟨_, rfl⟩
  rw [crcW_feed h n hn, crcW_feed (set_lt h hx k) n hn] at e
  exact feedG_set (steps n) (fun x hx => steps_lt n hx) (steps_inj n) h (r := ones) (by decide) hk hx (xor_cancel e)
theorem heads_lt {s : Int} {l : List Pg} (hv : validR s l 256 = 0) (hw : PgsWf l) : ∀ x ∈ heads s l, x < 18446744073709551616 := by
  obtain ⟨_, h2, h3, h4, _, _⟩ := valid_zero hv
  intro x hx
  rw [heads, List.mem_append, List.mem_flatMap] at hx
  rcases hx with hx | ⟨p, hp, hx⟩
  · simp at hx; omega
  · have h1 := h4 p hp
    have h2 := (hw p hp).h
    rcases List.mem_cons.1 hx with rfl | hx
    · omega
    · rcases List.mem_cons.1 hx with rfl | hx
      · exact h2
      · exact data_lt (hw p hp) x hx
theorem bodyW_lt {s : Int} {l : List Pg} (hv : validR s l 256 = 0) (hw : PgsWf l) : ∀ x ∈ bodyW s l, x < 18446744073709551616 := fun x hx => by
  rw [bodyW, List.mem_append] at hx
  rcases hx with hx | hx
  · exact heads_lt hv hw x hx
  · simp at hx; rw [hx]; exact Cf.crcW_lt _
/-- A body of which one word is changed, and not the second, is no record. -/
theorem parse_changed {s lines : Int} {l : List Pg} (hv : validR s l 256 = 0) (hw : PgsWf l) {k x : Nat} (hk : k < (bodyW s l).length) (h1 : k ≠ 1) (hx : x < 18446744073709551616) (h : parseE ((bodyW s l).set k x) lines = 0) : x = wd (bodyW s l) k := by
  unfold parseE at h
  split at h
  · split at h
    · rename_i h2
      obtain ⟨hvb, hb⟩ := h2
      have hok := valid_ok hvb
      have hm : (unpL ((bodyW s l).set k x)).length = l.length := by
        rw [unpL_len hok]
        have := (unp_body hv []).1
        have w1 : wd (bodyW s l) 1 = l.length := by
          rw [bodyW, wd_left (by rw [heads_len]; omega)]; rfl
        rw [← w1]
        unfold wd
        rw [List.getD_eq_getElem?_getD, List.getD_eq_getElem?_getD, List.getElem?_set_ne h1]
      generalize unpS ((bodyW s l).set k x) = s' at *
      generalize unpL ((bodyW s l).set k x) = l' at *
      rw [hm, List.take_of_length_le (by rw [List.length_set, bodyW_len]; omega)] at hb
      have hlen : (heads s' l').length = (heads s l).length := by rw [heads_len, heads_len, hm]
      by_cases hlast : k < (heads s l).length
      · have e : heads s' l' ++ [Cf.crcW (heads s' l')] = (heads s l).set k x ++ [Cf.crcW (heads s l)] := by
          rw [← bodyW, hb, bodyW, List.set_append_left _ _ hlast]
        obtain ⟨e1, e2⟩ := List.append_inj e (by rw [hlen, List.length_set])
        rw [e1] at e2
        have := crcW_set (heads_lt hv hw) hlast hx (by simpa using e2)
        rw [this, bodyW, wd_left hlast]
      · have hk2 : k = (heads s l).length := by rw [bodyW, List.length_append] at hk; simp at hk; omega
        subst hk2
        have e : heads s' l' ++ [Cf.crcW (heads s' l')] = heads s l ++ [x] := by
          rw [← bodyW, hb, bodyW, List.set_append_right _ _ (Nat.le_refl _)]; simp
        obtain ⟨e1, e2⟩ := List.append_inj e hlen
        rw [e1] at e2
        have e2 : Cf.crcW (heads s l) = x := by simpa using e2
        rw [← e2]
        have := wd_right (a := heads s l) (c := [Cf.crcW (heads s l)]) (i := 0)
        rw [Nat.add_zero] at this
        rw [bodyW, this]; rfl
    · cases h
  · cases h
/-- A body without its last word is no record. -/
theorem parse_short {s lines : Int} {l : List Pg} (hv : validR s l 256 = 0) (hn : nodeB lines = true) : parseE ((bodyW s l).take (2 + 9 * l.length)) lines = 14 := by
  rw [parseE, if_pos hn, if_neg]
  intro h
  have hok := valid_ok h.1
  have h3 := hok.2.2
  rw [List.length_take, bodyW_len] at h3
  have w1 : wd ((bodyW s l).take (2 + 9 * l.length)) 1 = l.length := by
    obtain ⟨_, _, h3, _⟩ := valid_zero hv
    rw [bodyW, ← heads_len s l, List.take_left]; rfl
  rw [w1] at h3
  omega
end Go.Proofs.Ytdodigfojbijfaa.Rn
