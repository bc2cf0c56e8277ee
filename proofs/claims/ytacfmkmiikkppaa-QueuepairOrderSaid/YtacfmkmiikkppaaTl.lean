/-
  Writes of one pair, piece by piece: plain lists.
-/
import Derived.Test.YtacfmkmiikkppaaTk
namespace Go.Proofs.Ytacfmkmiikkppaa.Tl_
open Go.ChangeShapes Go.WideShapes Go.ChangeAt Go.RowKit Ga Na Nc Nd_ Va Vb Vd Ve Vf Qa Tc Te Tf Tg Tk
set_option linter.unusedVariables false
set_option linter.unusedSimpArgs false
set_option maxRecDepth 100000
theorem putW_putW {ws l1 l2 : List Nat} {a : Nat} (h : a + l1.length + l2.length ≤ ws.length) : putW (putW ws a l1) (a + l1.length) l2 = putW ws a (l1 ++ l2) := by
  apply List.ext_getElem?
  intro i
  rw [putW_get (by rw [putW_len (by omega)]; exact h), putW_get (by omega), putW_get (by rw [List.length_append]; omega), List.length_append]
  by_cases h1 : i < a
  · rw [if_pos (by omega), if_pos h1, if_pos h1]
  · rw [if_neg h1, if_neg h1]
    by_cases h2 : i < a + l1.length
    · rw [if_pos h2, if_pos h2, if_pos (by omega), List.getElem?_append_left (by omega)]
    · rw [if_neg h2, if_neg h2]
      by_cases h3 : i < a + l1.length + l2.length
      · rw [if_pos h3, if_pos (by omega), List.getElem?_append_right (by omega)]
        congr 1
        omega
      · rw [if_neg h3, if_neg (by omega)]
/-- A node's words when i pieces of the write v have been executed on ws. -/
def wsI (ws : List Nat) (v : Mv) (i : Nat) : List Nat := putW ws (aM v) (v.s.take (atM v i - aM v))
theorem at_next {v : Mv} {i : Nat} (h : OkV v) (hi : i < nP v) : atM v i + mM v i = atM v (i + 1) := by
  obtain ⟨h1, h2, h3, h4, h5⟩ := h.pos
  have hn := cut_next (a := aM v) (e := aM v + cM v) (by omega) hi
  unfold atM mM
  omega
theorem at_zero (v : Mv) : atM v 0 = aM v := by unfold atM cutp; rw [if_pos rfl]
theorem at_le {v : Mv} {i : Nat} (h : OkV v) (hi : i ≤ nP v) : aM v ≤ atM v i ∧ atM v i ≤ aM v + cM v := by
  rcases Nat.lt_or_ge i (nP v) with hl | hl
  · have := h.piece hl
    omega
  · obtain rfl : i = nP v := by omega
    obtain ⟨h1, h2, h3, h4, h5⟩ := h.pos
    have : atM v (nP v) = aM v + cM v := cut_end (by omega)
    omega
theorem cM_write {v : Mv} (hk : v.k = 2) : cM v = v.s.length := by
  unfold cM cntM cnt
  rw [if_neg (by omega), if_pos hk]
  rfl
theorem wsI_zero (ws : List Nat) (v : Mv) : wsI ws v 0 = ws := by unfold wsI; rw [at_zero, Nat.sub_self, List.take_zero, putW_nil]
theorem wsI_len {ws : List Nat} {v : Mv} {i : Nat} (h : OkV v) (hk : v.k = 2) (hi : i ≤ nP v) (hl : aM v + cM v ≤ ws.length) : (wsI ws v i).length = ws.length := by
  have := at_le h hi
  have := cM_write hk
  unfold wsI
  rw [putW_len (by rw [List.length_take]; omega)]
theorem wsI_next {ws : List Nat} {v : Mv} {i : Nat} (h : OkV v) (hk : v.k = 2) (hi : i < nP v) (hl : aM v + cM v ≤ ws.length) : wsS v (wsI ws v i) i = wsI ws v (i + 1) := by
  have h1 := h.piece hi
  have h2 := at_next h hi
  have h3 := cM_write hk
  unfold wsS wsM wsI
  rw [if_pos hk]
  have e : atM v i = aM v + (v.s.take (atM v i - aM v)).length := by rw [List.length_take]; omega
  have := putW_putW (ws := ws) (l1 := v.s.take (atM v i - aM v)) (l2 := (v.s.drop (atM v i - aM v)).take (mM v i)) (a := aM v) (by rw [List.length_take, List.length_take, List.length_drop]; omega)
  rw [← e] at this
  rw [this, ← List.take_add]
  congr 2
  omega
theorem wsI_get {ws : List Nat} {v : Mv} {i : Nat} (h : OkV v) (hk : v.k = 2) (hi : i ≤ nP v) (hl : aM v + cM v ≤ ws.length) (j : Nat) : (wsI ws v i)[j]? = if aM v ≤ j ∧ j < atM v i then v.s[j - aM v]? else ws[j]? := by
  have h1 := at_le h hi
  have h3 := cM_write hk
  unfold wsI
  rw [putW_get (by rw [List.length_take]; omega), List.length_take]
  by_cases h4 : j < aM v
  · rw [if_pos h4, if_neg (by omega)]
  · rw [if_neg h4]
    by_cases h5 : j < atM v i
    · rw [if_pos (by omega), if_pos (by omega), List.getElem?_take, if_pos (by omega)]
    · rw [if_neg (by omega), if_neg (by omega)]
theorem atW_same {ws ws' : List Nat} {j : Nat} (h : ws'[j]? = ws[j]?) : atW ws' j = atW ws j := by
  unfold atW
  rw [List.getD_eq_getElem?_getD, List.getD_eq_getElem?_getD, h]
theorem out_write {v : Mv} (hk : v.k = 2) (ws : List Nat) (i : Nat) : outS v ws i = [] := by unfold outS outM; rw [if_pos hk]
/-- Writes of key and boot number 1 behind line 4 of a node that has not closed are executed. -/
theorem code_write {v : Mv} {ws : List Nat} (hk : v.k = 2) (hky : v.ky = 1) (hbo : v.bo = 1) (ha : 32 ≤ aM v) (hv : validC v.k v.nd v.a (cntM v) 5 40 = 0) (h0 : atW ws 0 = 1) (h1 : atW ws 1 = 1) (h2 : atW ws 24 ≤ 1) : codeV 0 1 40 ws true v = 0 := by
  unfold codeV codeM
  rw [if_neg (by simp), if_neg (by simpa using hv)]
  have hp := valid_pos hv
  have hc : ctl v.k v.a (cntM v) = false := by
    unfold ctl
    refine decide_eq_false ?_
    unfold lstL kf
    unfold aM at ha
    split <;> omega
  unfold checkC
  rw [hc, if_neg (by simp), if_neg (by rw [Nat.add_zero]; omega), if_neg (by simp), if_neg (by rw [h0, h1, hky, hbo]; simp)]
def fillW (sd n k : Nat) : List Nat := (rawW sd n).take k ++ List.replicate (n - k) 0
theorem rawW_get {sd n j : Nat} (h : j < n) : (rawW sd n)[j]? = some ((sd + j) % 18446744073709551616) := by simp [rawW, h]
theorem fill_zero (sd n : Nat) : fillW sd n 0 = List.replicate n 0 := by simp [fillW]
theorem fill_all (sd n : Nat) : fillW sd n n = rawW sd n := by unfold fillW; rw [Nat.sub_self, List.take_of_length_le (by rw [rawW_len]; exact Nat.le_refl _)]; simp
theorem fill_next {sd n k : Nat} (h : k < n) : (fillW sd n k).set k ((sd + k) % 18446744073709551616) = fillW sd n (k + 1) := by
  apply List.ext_getElem?
  intro i
  have hl : (List.take k (rawW sd n)).length = k := by rw [List.length_take, rawW_len]; omega
  have hl2 : (List.take (k + 1) (rawW sd n)).length = k + 1 := by rw [List.length_take, rawW_len]; omega
  unfold fillW
  rw [List.getElem?_set]
  by_cases hi : k = i
  · subst hi
    rw [if_pos rfl, List.length_append, hl, List.length_replicate, if_pos (by omega), List.getElem?_append_left (by omega), List.getElem?_take, if_pos (by omega), rawW_get h]
  · rw [if_neg hi]
    by_cases h2 : i < k
    · rw [List.getElem?_append_left (by omega), List.getElem?_append_left (by omega), List.getElem?_take, List.getElem?_take, if_pos h2, if_pos (by omega)]
    · rw [List.getElem?_append_right (by omega), List.getElem?_append_right (by omega), hl, hl2, List.getElem?_replicate, List.getElem?_replicate]
      by_cases h3 : i < n
      · rw [if_pos (by omega), if_pos (by omega)]
      · rw [if_neg (by omega), if_neg (by omega)]
theorem fill_lt (sd n k : Nat) : ∀ x ∈ fillW sd n k, x < 18446744073709551616 := fun x hx => by
  rcases List.mem_append.1 hx with h | h
  · exact rawW_lt sd n x (List.mem_of_mem_take h)
  · rw [List.mem_replicate] at h; omega
theorem wsF_get {j : Nat} (h : 2 ≤ j) (h2 : j < 320) : wsF[j]? = some 0 := by
  unfold wsF
  rw [List.getElem?_set, if_neg (by omega), List.getElem?_set, if_neg (by omega), List.getElem?_replicate, if_pos h2]
theorem wsF_len : wsF.length = 320 := by simp [wsF]
/-- The write of n words from fm on, counted up from sd. -/
def wv (fm sd n : Nat) : Mv := ⟨2, 0, fm, 0, 0, 0, 1, 1, rawW sd n⟩
theorem wv_cnt (fm sd n : Nat) : cntM (wv fm sd n) = n := by show cnt 2 0 (rawW sd n).length = n; unfold cnt; rw [if_neg (by decide), if_pos rfl, rawW_len]
theorem wv_valid {fm n : Nat} {L : Int} (h1 : 1 ≤ n) (h2 : 40 ≤ fm) (h3 : (fm : Int) + n ≤ 8 * L) (h4 : L ≤ 256) (h5 : n ≤ 60) : validC 2 0 fm n 5 L = 0 := by
  unfold validC
  rw [if_neg (by omega), if_pos]
  have e1 : liesB fm n L = true := by unfold liesB lstL fstL; exact decide_eq_true (by omega)
  have e2 : mixB 2 fm n = false := by unfold mixB fstL lstL kf; exact decide_eq_false (by rw [if_neg (by decide)]; omega)
  exact ⟨by omega, by omega, by omega, by omega, by omega, by omega, e1, e2⟩
theorem wv_ok {fm sd n : Nat} (h1 : 1 ≤ n) (h2 : 40 ≤ fm) (h3 : fm + n ≤ 320) (h5 : n ≤ 60) : OkV (wv fm sd n) :=
  ⟨by show 0 < _; omega, by show 0 < _; omega, by show (1 : Int) ≤ _; omega, ⟨by show (rawW sd n).length ≤ _; rw [rawW_len]; omega, rawW_lt sd n⟩, by rw [wv_cnt]; exact wv_valid h1 h2 (by omega) (by omega) h5⟩
theorem wv_code {fm sd n i : Nat} (h1 : 1 ≤ n) (h2 : 40 ≤ fm) (h3 : fm + n ≤ 320) (h5 : n ≤ 60) {ws : List Nat} (h0 : ws[0]? = some 1) (h6 : ws[1]? = some 1) (h7 : ws[24]? = some 0) : codeV 0 1 40 ws true (wv fm sd n) = 0 := by
  refine code_write rfl rfl rfl (by show 32 ≤ ((fm : Int)).toNat; omega) (by rw [wv_cnt]; exact wv_valid h1 h2 (by omega) (by omega) h5) ?_ ?_ ?_
  · unfold atW; rw [List.getD_eq_getElem?_getD, h0]; rfl
  · unfold atW; rw [List.getD_eq_getElem?_getD, h6]; rfl
  · unfold atW; rw [List.getD_eq_getElem?_getD, h7]; decide
theorem wv_a0 (fm sd n : Nat) : aM (wv fm sd n) = fm := by show ((fm : Int)).toNat = fm; omega
theorem wv_c0 (fm sd n : Nat) : cM (wv fm sd n) = n := by unfold cM; rw [wv_cnt]; omega
theorem wv_n (fm sd n : Nat) : nP (wv fm sd n) = numP fm (fm + n) := by unfold nP; rw [wv_a0, wv_c0]
theorem wv_a (fm sd n : Nat) : aM (wv fm sd n) = fm := by show ((fm : Int)).toNat = fm; omega
theorem wv_c (fm sd n : Nat) : cM (wv fm sd n) = n := by unfold cM; rw [wv_cnt]; omega
end Go.Proofs.Ytacfmkmiikkppaa.Tl_
