/-
  Rows of pieces, read.
-/
import Derived.Test.YtkkeamlpfpcbfaaVl
namespace Go.Proofs.Ytkkeamlpfpcbfaa.Vn
open Go.ChangeShapes Go.WideShapes Go.ChangeAt Go.RowKit Ga Va Vb Vd Vf Vg Vk Vl
set_option linter.unusedVariables false
set_option linter.unusedSimpArgs false
theorem flat_at (l : List (Nat × Nat)) : ∀ j, j < l.length → (flat l)[j * 2]? = some (.int .i64 ((l.getD j (0, 0)).1 : Int)) ∧ (flat l)[j * 2 + 1]? = some (.int .i64 ((l.getD j (0, 0)).2 : Int)) := by
  induction l with
  | nil => intro j h; simp at h
  | cons x l ih =>
    intro j h
    match j, h with
    | 0, _ => simp [flat]
    | j + 1, h =>
      have := ih j (by simpa using h)
      have e : flat (x :: l) = .int .i64 (x.1 : Int) :: .int .i64 (x.2 : Int) :: flat l := by simp [flat]
      rw [e, show (j + 1) * 2 = j * 2 + 1 + 1 by omega]
      simpa using this
def Ps (W : World) (v : Value) (K a e : Nat) : Prop := ∃ g cap, v = .slice (some ⟨g, 0, none⟩) K cap ∧ K ≤ cap ∧ ∀ j, j < K → W.cell? ⟨g, j * 2, none⟩ = some (.int .i64 (cutp a e j : Nat)) ∧ W.cell? ⟨g, j * 2 + 1, none⟩ = some (.int .i64 ((cutp a e (j + 1) - cutp a e j : Nat) : Int))
theorem ps_of {W : World} {B : Nat} {T : TypeId} {v : Value} {K a e : Nat} (h : W.ownsRow B T 2 v K (flat (pcs a e K))) (hK : 1 ≤ K) : Ps W v K a e := by
  rcases h.2 with ⟨_, h0⟩ | ⟨g, cap, cur, rfl, _, _, hc, _⟩
  · omega
  · refine ⟨g, cap, rfl, hc, fun j hj => ?_⟩
    have hl : j < (pcs a e K).length := by rw [pcs_len]; exact hj
    have hf := flat_at (pcs a e K) j hl
    have hg : (pcs a e K).getD j (0, 0) = (cutp a e j, cutp a e (j + 1) - cutp a e j) := by
      rw [List.getD_eq_getElem?_getD, List.getElem?_eq_getElem hl]
      simp [pcs]
    rw [hg] at hf
    exact ⟨(h.cellAt (j * 2) (by omega)).trans hf.1, (h.cellAt (j * 2 + 1) (by omega)).trans hf.2⟩
theorem Ps.on {W W' : World} {v : Value} {K a e : Nat} (h : Ps W v K a e) (hb : Below W.heap.size W W') : Ps W' v K a e := by
  obtain ⟨g, cap, hv, hc, hj⟩ := h
  exact ⟨g, cap, hv, hc, fun j hl => ⟨(hb.cell (block_lt_of_cell (hj j hl).1)).trans (hj j hl).1, (hb.cell (block_lt_of_cell (hj j hl).2)).trans (hj j hl).2⟩⟩
end Go.Proofs.Ytkkeamlpfpcbfaa.Vn
