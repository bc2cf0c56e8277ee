/-
  Plain mathematics of the pages that the hand makes: ascending, each once.
-/
import Derived.Test.YtdodigfojbijfaaRq
namespace Go.Proofs.Ytdodigfojbijfaa.Rr
open Go.ChangeShapes Go.WideShapes Go.ChangeAt Go.RowKit Ga Gb Ra Rb Rc Rd Re Rf Rg Rh Ri Rj Rk Rl Rm Rn Ro Rp Un
set_option linter.unusedVariables false
set_option linter.unusedSimpArgs false
set_option maxRecDepth 10000

/-- Where a page of that line stands: behind those of smaller lines. -/
def pos (x : Int) : List Pg → Nat
  | [] => 0
  | q :: r => if q.line < x then pos x r + 1 else 0
theorem pos_is (x : Int) : ∀ (l : List Pg) (j : Nat), (∀ i, i < j → (l.getD i pz).line < x) → j ≤ l.length → (j < l.length → ¬ (l.getD j pz).line < x) → pos x l = j
  | [], j, _, hj, _ => by simp at hj; rw [hj]; rfl
  | q :: r, 0, _, _, h => by
    have : ¬ q.line < x := h (by simp)
    rw [pos, if_neg this]
  | q :: r, j + 1, h, hj, hs => by
    have h0 : q.line < x := h 0 (by omega)
    rw [pos, if_pos h0, pos_is x r j (fun i hi => h (i + 1) (by omega)) (by simpa using hj) (fun hl => hs (by simpa using hl))]
theorem pos_le (x : Int) : ∀ l : List Pg, pos x l ≤ l.length
  | [] => Nat.le_refl _
  | q :: r => by
    rw [pos]; split
    · have := pos_le x r; simp; omega
    · simp
theorem pos_lt (x : Int) : ∀ (l : List Pg) (i : Nat), i < pos x l → (l.getD i pz).line < x
  | [], i, h => by simp [pos] at h
  | q :: r, i, h => by
    rw [pos] at h
    split at h
    · rename_i h0
      cases i with
      | zero => exact h0
      | succ i => exact pos_lt x r i (by omega)
    · omega
theorem pos_stop (x : Int) : ∀ (l : List Pg), pos x l < l.length → ¬ (l.getD (pos x l) pz).line < x
  | [], h => by simp at h
  | q :: r, h => by
    rw [pos] at h ⊢
    split at h
    · rename_i h0
      rw [if_pos h0]
      exact pos_stop x r (by simpa using h)
    · rename_i h0
      rw [if_neg h0]
      exact h0
def insP (most : Nat) (p : Pg) (l : List Pg) : List Pg :=
  if (pos p.line l < l.length ∧ (l.getD (pos p.line l) pz).line = p.line) ∨ most ≤ l.length then l else l.take (pos p.line l) ++ p :: l.drop (pos p.line l)
def pgsH (L : Int) (most : Nat) (zs : List Int) : List Pg := zs.foldl (fun l z => insP most (hpg z L) l) []
theorem take_snoc_int (l : List Int) (k : Nat) (h : k < l.length) : l.take (k + 1) = l.take k ++ [l.getD k 0] := by
  rw [List.take_succ_eq_append_getElem h]; simp [h]
theorem pgsH_next (L : Int) (most : Nat) (zs : List Int) {k : Nat} (h : k < zs.length) : pgsH L most (zs.take (k + 1)) = insP most (hpg (zs.getD k 0) L) (pgsH L most (zs.take k)) := by
  rw [pgsH, pgsH, take_snoc_int zs k h, List.foldl_append]; rfl
/-- Ascending pages of the hand. -/
structure Nice (L : Int) (l : List Pg) : Prop where
  up : l.Pairwise (fun a b => a.line < b.line)
  of : ∀ p ∈ l, ∃ z, p = hpg z L
theorem Nice.nil (L : Int) : Nice L [] := ⟨List.Pairwise.nil, fun p hp => by cases hp⟩
theorem getD_mem {l : List Pg} {i : Nat} (h : i < l.length) : l.getD i pz = l[i] := by
  rw [List.getD_eq_getElem?_getD, List.getElem?_eq_getElem h]; rfl
theorem Nice.ins {L z : Int} {l : List Pg} (h : Nice L l) (most : Nat) : Nice L (insP most (hpg z L) l) ∧ (insP most (hpg z L) l).length ≤ max most l.length ∧ 0 < (insP most (hpg z L) l).length + (if most = 0 then 1 else 0) := by
  generalize hp : hpg z L = p
  unfold insP
  split
  · rename_i h0
    refine ⟨h, by omega, ?_⟩
    split
    · omega
    · rcases h0 with h0 | h0 <;> omega
  · rename_i h0
    rw [not_or] at h0
    have hle := pos_le p.line l
    have h1 : (l.take (pos p.line l)).length = pos p.line l := by rw [List.length_take]; omega
    refine ⟨⟨?_, ?_⟩, ?_, ?_⟩
    · rw [List.pairwise_append]
      refine ⟨h.up.sublist (List.take_sublist _ _), ?_, ?_⟩
      · rw [List.pairwise_cons]
        refine ⟨fun q hq => ?_, h.up.sublist (List.drop_sublist _ _)⟩
        obtain ⟨i, hi, rfl⟩ := List.getElem_of_mem hq
        rw [List.length_drop] at hi
        rw [List.getElem_drop]
        have hpl : pos p.line l < l.length := by omega
        have hs := pos_stop p.line l hpl
        have hne : ¬ (l.getD (pos p.line l) pz).line = p.line := fun e => h0.1 ⟨hpl, e⟩
        rw [getD_mem hpl] at hs hne
        by_cases hi0 : i = 0
        · subst hi0
          show p.line < (l[pos p.line l + 0]).line
          simp only [Nat.add_zero]
          omega
        · have := List.pairwise_iff_getElem.1 h.up (pos p.line l) (pos p.line l + i) hpl (by omega) (by omega)
          omega
      · intro a ha b hb
        obtain ⟨i, hi, rfl⟩ := List.getElem_of_mem ha
        rw [List.getElem_take]
        have hil : i < pos p.line l := by omega
        have hlt := pos_lt p.line l i hil
        rw [getD_mem (by omega)] at hlt
        rcases List.mem_cons.1 hb with rfl | hb
        · exact hlt
        · obtain ⟨j, hj, rfl⟩ := List.getElem_of_mem hb
          rw [List.length_drop] at hj
          rw [List.getElem_drop]
          exact List.pairwise_iff_getElem.1 h.up i (pos p.line l + j) (by omega) (by omega) (by omega)
    · intro q hq
      rcases List.mem_append.1 hq with hq | hq
      · exact h.of q (List.mem_of_mem_take hq)
      · rcases List.mem_cons.1 hq with rfl | hq
        · exact ⟨z, hp.symm⟩
        · exact h.of q (List.mem_of_mem_drop hq)
    · rw [List.length_append, List.length_cons, List.length_drop, h1]; omega
    · rw [List.length_append, List.length_cons]; omega
theorem pgsH_nice (L : Int) (most : Nat) (hm : 0 < most) (zs : List Int) : ∀ k, k ≤ zs.length → Nice L (pgsH L most (zs.take k)) ∧ (pgsH L most (zs.take k)).length ≤ most ∧ (0 < k → 0 < (pgsH L most (zs.take k)).length) := by
  intro k
  induction k with
  | zero => intro _; exact ⟨Nice.nil L, by simp [pgsH], fun h => by omega⟩
  | succ k ih =>
    intro hk
    obtain ⟨h1, h2, h3⟩ := ih (by omega)
    rw [pgsH_next L most zs (by omega)]
    obtain ⟨g1, g2, g3⟩ := h1.ins (z := zs.getD k 0) most
    rw [if_neg (by omega)] at g3
    exact ⟨g1, by omega, fun _ => by omega⟩
theorem hpg_head (z L : Int) : (hpg z L).head % 256 = 0 ∧ 256 ≤ (hpg z L).head ∧ (hpg z L).head ≤ 1024 := by
  have h2 := pk_lt (z.tdiv 64) 4 (by decide)
  unfold hpg; simp only; omega
theorem hpg_ok (z L : Int) : unwB (hpg z L) = false := by
  have h := hpg_head z L
  have e1 : Wb.nextE ((hpg z L).head : Int) = 0 := by unfold Wb.nextE; rw [if_pos (by omega)]
  have e2 : (((hpg z L).head : Int) % 256 == 0) = true := by rw [beq_iff_eq]; omega
  unfold unwB
  rw [e1, e2]; rfl
theorem hpg_line (z L : Int) (hL : 97 ≤ L) : 96 ≤ (hpg z L).line ∧ (hpg z L).line ≤ L - 1 := by
  have h2 := pk_lt z (L - 96) (by omega)
  unfold hpg; simp only; omega
theorem Nice.wf {L : Int} {l : List Pg} (h : Nice L l) (hL : 97 ≤ L ∧ L ≤ 256) : PgsWf l := fun p hp => by
  obtain ⟨z, rfl⟩ := h.of p hp
  exact hpg_wf z L hL
theorem Nice.asc {L : Int} {l : List Pg} (h : Nice L l) : asc l = true := asc_yes fun i hi h1 => by
  rw [getD_mem (by omega), getD_mem hi]
  exact List.pairwise_iff_getElem.1 h.up (i - 1) i (by omega) hi (by omega)
/-- A record of the hand's pages is valid. -/
theorem Nice.valid {L : Int} {l : List Pg} (h : Nice L l) (hL : 98 ≤ L ∧ L ≤ 256) (h1 : 1 ≤ l.length ∧ l.length ≤ 12) {s : Int} (hs : 1 ≤ s ∧ s ≤ 1073741823) : validR s l L = 0 := by
  have hO : l.any (outB L) = false := by
    rw [List.any_eq_false]
    intro p hp
    obtain ⟨z, rfl⟩ := h.of p hp
    have := hpg_line z L (by omega)
    simp only [outB, Bool.not_eq_true, Bool.not_eq_false', decide_eq_true_eq]
    omega
  have hU : l.any unwB = false := by
    rw [List.any_eq_false]
    intro p hp
    obtain ⟨z, rfl⟩ := h.of p hp
    rw [hpg_ok]; decide
  rw [validR, if_pos (show nodeB L = true from decide_eq_true hL), if_pos ⟨hs, h1⟩, if_neg (by simp [hO]), if_pos ⟨h.asc, hU⟩]
/-- The pages of the hand's record: at least one. -/
def recL (seq L : Int) (zs : List Int) : List Pg := if (pgsH L 12 zs).length = 0 then [hpg seq L] else pgsH L 12 zs
def recS (seq : Int) : Int := (pk seq 1000 : Int) + 1
theorem recS_range (seq : Int) : 1 ≤ recS seq ∧ recS seq ≤ 1000 := by
  have := pk_lt seq 1000 (by decide)
  unfold recS; omega
theorem recL_nice (seq L : Int) (zs : List Int) : Nice L (recL seq L zs) ∧ 1 ≤ (recL seq L zs).length ∧ (recL seq L zs).length ≤ 12 := by
  have h := pgsH_nice L 12 (by decide) zs zs.length (Nat.le_refl _)
  rw [List.take_length] at h
  unfold recL
  split
  · exact ⟨⟨List.pairwise_singleton _ _, fun p hp => ⟨seq, by simpa using hp⟩⟩, by simp, by simp⟩
  · exact ⟨h.1, by omega, h.2.1⟩
theorem recL_valid (seq L : Int) (zs : List Int) (hL : 98 ≤ L ∧ L ≤ 256) : validR (recS seq) (recL seq L zs) L = 0 := by
  obtain ⟨h1, h2, h3⟩ := recL_nice seq L zs
  have := recS_range seq
  exact h1.valid hL ⟨h2, h3⟩ (by omega)
end Go.Proofs.Ytdodigfojbijfaa.Rr
