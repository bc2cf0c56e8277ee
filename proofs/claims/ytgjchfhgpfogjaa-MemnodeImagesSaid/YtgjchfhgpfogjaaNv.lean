/-
  Images as plain mathematics: what is an image, and that one changed byte is none.
-/
import Derived.Test.YtgjchfhgpfogjaaNt
namespace Go.Proofs.Ytgjchfhgpfogjaa.Nv
open Go.ChangeShapes Go.WideShapes Go.ChangeAt Go.RowKit Ga Ma Ca Cb Cc Cd Ce Na Nb Nc Nd_ Nf Ng Nh Np Nq Nr Ns Nt
set_option linter.unusedVariables false
set_option linter.unusedSimpArgs false

theorem feed_inj {r1 r2 : Nat} (h1 : r1 < 18446744073709551616) (h2 : r2 < 18446744073709551616) {l : List Nat} (hl : ∀ x ∈ l, x < 256) (h : feed r1 l = feed r2 l) : r1 = r2 := by
  rw [feed_num _ _ hl, feed_num _ _ hl] at h
  have e : steps (8 * l.length) (r1 ^^^ r2) = 0 := by
    have := congrArg (· ^^^ steps (8 * l.length) (r2 ^^^ num l)) h
    simp only [Nat.xor_self] at this
    rw [← steps_xor, xor_four, Nat.xor_self, Nat.xor_zero] at this
    exact this
  by_cases h0 : r1 ^^^ r2 = 0
  · exact xor_eq_zero h0
  · exact absurd e (steps_ne _ (Nat.xor_lt_two_pow (n := 64) h1 h2) h0)
theorem crc_one {a b : List Nat} {x y : Nat} (ha : ∀ z ∈ a, z < 256) (hb : ∀ z ∈ b, z < 256) (hx : x < 256) (hy : y < 256) (h : crc (a ++ x :: b) = crc (a ++ y :: b)) : x = y := by
  have h1 := xor_cancel h
  rw [feed_append, feed_append] at h1
  have hr := feed_lt a (show ones < 18446744073709551616 by decide) ha
  generalize feed ones a = r at *
  have hc : ∀ z, feed r (z :: b) = feed (steps 8 (r ^^^ z)) b := fun z => rfl
  rw [hc, hc] at h1
  have lt8 : ∀ z, z < 256 → r ^^^ z < 18446744073709551616 := fun z hz => Nat.xor_lt_two_pow (n := 64) hr (by omega)
  have h2 := feed_inj (steps_lt 8 (lt8 x hx)) (steps_lt 8 (lt8 y hy)) hb h1
  have e : steps 8 (x ^^^ y) = 0 := by
    have := congrArg (· ^^^ steps 8 (r ^^^ y)) h2
    simp only [Nat.xor_self] at this
    rw [← steps_xor, xor_four, Nat.xor_self, Nat.zero_xor] at this
    exact this
  by_cases h0 : x ^^^ y = 0
  · exact xor_eq_zero h0
  · exact absurd e (steps_ne _ (Nat.xor_lt_two_pow (n := 64) (by omega) (by omega)) h0)
theorem little_inj {a b : Nat} (ha : a < 18446744073709551616) (hb : b < 18446744073709551616) (h : little a = little b) : a = b := by
  rw [← num_little ha, ← num_little hb, h]

/-- The image of some node. -/
structure Is (l : List Nat) (ws : List Nat) (up : Bool) (L : Nat) : Prop where
  eq : l = img ws up L
  len : ws.length = 8 * L
  pos : 1 ≤ L
  most : L ≤ 256
  lt : ∀ x ∈ ws, x < 18446744073709551616
def Good (l : List Nat) : Prop := ∃ ws up L, Is l ws up L
theorem body_lt {ws : List Nat} {up : Bool} {L : Nat} : ∀ x ∈ body ws up L, x < 256 := fun x hx => img_lt (ws := ws) (up := up) (L := L) x (List.mem_append_left _ hx)
theorem flip_bad {ws : List Nat} {up : Bool} {L q z : Nat} (h : Is (img ws up L) ws up L) (hq : q < (img ws up L).length) (hz : z < 256) (hne : z ≠ (img ws up L).getD q 0) : ¬ Good ((img ws up L).set q z) := by
  rintro ⟨ws', up', L', h'⟩
  have hl := congrArg List.length h'.eq
  rw [List.length_set, img_len, img_len, h.len, h'.len] at hl
  obtain rfl : L' = L := by omega
  have hb := body_len ws up L'
  have hb' := body_len ws' up' L'
  rw [h.len] at hb
  rw [h'.len] at hb'
  have he := h'.eq
  have ei : img ws up L' = body ws up L' ++ little (crc (body ws up L')) := rfl
  have ei' : img ws' up' L' = body ws' up' L' ++ little (crc (body ws' up' L')) := rfl
  rw [ei, ei'] at he
  rw [ei] at hne hq
  have l1 := body_lt (ws := ws) (up := up) (L := L')
  have l2 := body_lt (ws := ws') (up := up') (L := L')
  generalize body ws up L' = a at *
  generalize body ws' up' L' = a' at *
  clear h h' hl ei ei'
  by_cases hqa : q < a.length
  · rw [List.set_append_left _ _ hqa] at he
    have hsp := List.append_inj he (by rw [List.length_set]; omega)
    have hc := little_inj (crc_lt l1) (crc_lt l2) hsp.2
    rw [List.getD_eq_getElem?_getD, List.getElem?_append_left hqa, List.getElem?_eq_getElem hqa] at hne
    have e1 : a = a.take q ++ a[q] :: a.drop (q + 1) := by simp
    have e2 : a.set q z = a.take q ++ z :: a.drop (q + 1) := by rw [List.set_eq_take_append_cons_drop, if_pos hqa]
    rw [← hsp.1, e2] at hc
    have hc2 : crc (a.take q ++ a[q] :: a.drop (q + 1)) = crc (a.take q ++ z :: a.drop (q + 1)) := by rw [← hc, ← e1]
    have := crc_one (take_lt l1 q) (fun x hx => l1 x (List.mem_of_mem_drop hx)) (l1 _ (List.getElem_mem _)) hz hc2
    exact hne this.symm
  · rw [List.set_append_right _ _ (by omega)] at he
    have hsp := List.append_inj he (by omega)
    rw [← hsp.1] at hsp
    have h2 := hsp.2
    have hql : q - a.length < (little (crc a)).length := by rw [List.length_append] at hq; omega
    have h3 := congrArg (fun l => l.getD (q - a.length) 0) h2
    simp only [List.getD_eq_getElem?_getD, List.getElem?_set_self hql] at h3
    rw [List.getD_eq_getElem?_getD, List.getElem?_append_right (by omega)] at hne
    exact hne (by simpa using h3)

/-- The words and the number of lines that the bytes spell. -/
def spelt (l : List Nat) (n : Nat) : List Nat := (List.range n).map fun i => num ((l.drop (7 + 8 * i)).take 8)
theorem spelt_len (l : List Nat) (n : Nat) : (spelt l n).length = n := by simp [spelt]
theorem bytes_at {ws : List Nat} {i : Nat} (h : i < ws.length) : ((bytesOf ws).drop (8 * i)).take 8 = little (ws.getD i 0) := by
  have e : ws = ws.take i ++ ws.getD i 0 :: ws.drop (i + 1) := by simp [h]
  have e2 : bytesOf ws = bytesOf (ws.take i) ++ (little (ws.getD i 0) ++ bytesOf (ws.drop (i + 1))) := by
    conv => lhs; rw [e]
    simp [bytesOf]
  rw [e2, List.drop_append_of_le_length (by rw [bytesOf_len, List.length_take]; omega), List.drop_of_length_le (by rw [bytesOf_len, List.length_take]; omega), List.nil_append, List.take_append_of_le_length (by rw [little_len]; omega), List.take_of_length_le (by rw [little_len]; omega)]
theorem Is.words {l ws : List Nat} {up : Bool} {L : Nat} (h : Is l ws up L) : spelt l (8 * L) = ws := by
  apply List.ext_getElem
  · rw [spelt_len, h.len]
  · intro i h1 h2
    have hi : i < ws.length := h2
    have hd : (l.drop (7 + 8 * i)).take 8 = little (ws.getD i 0) := by
      rw [h.eq, img, body, List.append_assoc, ← List.drop_drop, List.drop_left' (head_len L up)]
      rw [List.drop_append_of_le_length (by rw [bytesOf_len]; omega), List.take_append_of_le_length (by rw [List.length_drop, bytesOf_len]; omega), bytes_at hi]
    have hx := h.lt _ (List.getElem_mem hi)
    simp [spelt]
    rw [hd, num_little (by simpa [hi] using hx)]
    simp [hi]
theorem Is.lines {l ws : List Nat} {up : Bool} {L : Nat} (h : Is l ws up L) : l.getD 4 0 + 256 * l.getD 5 0 = L ∧ l.getD 6 0 = upB up ∧ l.length = 15 + 64 * L := by
  have h1 := h.most
  refine ⟨?_, ?_, by rw [h.eq, img_len, h.len]; omega⟩
  · rw [h.eq, img, body, head, low2]
    simp
    omega
  · rw [h.eq, img, body, head, low2]
    simp
end Go.Proofs.Ytgjchfhgpfogjaa.Nv
