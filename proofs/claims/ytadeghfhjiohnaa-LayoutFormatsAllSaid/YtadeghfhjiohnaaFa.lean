/-
  Rows of structs: what each holds, a cell of one set.
-/
import Derived.Test.YtadeghfhjiohnaaTa
import Derived.Laws.MakeOwn
namespace Go.Proofs.Ytadeghfhjiohnaa.Fa
open Go.ChangeShapes Go.WideShapes Go.ChangeAt Go.RowKit Ga Gb Ta
set_option linter.unusedVariables false
set_option linter.unusedSimpArgs false
/-- A row of m structs of sz cells in block g, the cells of the i-th are f i. -/
structure SR (T : TypeId) (sz : Nat) (w : World) (g m cap : Nat) (f : Nat → List Value) : Prop where
  hm : m ≤ cap ∧ cap ≤ maxLen
  z : ∃ cur, w.heap[g]? = some (.cells cur T (0, 0)) ∧ m * sz ≤ cur.size ∧ ∀ c, c < m → ∀ j, j < sz → cur[c * sz + j]? = (f c)[j]?
  len : ∀ c, c < m → (f c).length = sz
def upd {α : Type} (f : Nat → α) (c : Nat) (x : α) : Nat → α := fun i => if i = c then x else f i
theorem upd_same {α : Type} (f : Nat → α) (c : Nat) (x : α) : upd f c x c = x := if_pos rfl
theorem upd_other {α : Type} (f : Nat → α) {c i : Nat} (x : α) (h : i ≠ c) : upd f c x i = f i := if_neg h
section
variable {T : TypeId} {sz : Nat} {w w' : World} {g m cap : Nat} {f : Nat → List Value}
theorem SR.typed (h : SR T sz w g m cap f) : ∃ cur, w.heap[g]? = some (.cells cur T (0, 0)) := by
  obtain ⟨cur, h1, _⟩ := h.z
  exact ⟨cur, h1⟩
theorem SR.lt (h : SR T sz w g m cap f) : g < w.heap.size := by
  obtain ⟨cur, h1, _⟩ := h.z
  exact (Array.getElem?_eq_some_iff.1 h1).1
theorem SR.keep (h : SR T sz w g m cap f) (hb : w'.heap[g]? = w.heap[g]?) : SR T sz w' g m cap f := by
  obtain ⟨cur, h1, h2⟩ := h.z
  exact ⟨h.hm, ⟨cur, hb.trans h1, h2⟩, h.len⟩
theorem SR.on {S : Nat → Prop} (h : SR T sz w g m cap f) (ho : Only S w w') (hs : ¬ S g) : SR T sz w' g m cap f := h.keep (ho.block g h.lt hs)
theorem SR.below (h : SR T sz w g m cap f) (hb : Below w.heap.size w w') : SR T sz w' g m cap f := h.keep (hb.block g h.lt)
theorem SR.fr (h : SR T sz w g m cap f) (j : Nat) : w.frozen? ⟨g, j, none⟩ = false := by
  obtain ⟨cur, h1, _⟩ := h.z
  exact frozen_of_row w g j _ _ h1
theorem SR.cell (h : SR T sz w g m cap f) {c j : Nat} (hc : c < m) (hj : j < sz) : w.cell? ⟨g, c * sz + j, none⟩ = (f c)[j]? := by
  obtain ⟨cur, h1, _, h3⟩ := h.z
  rw [cell_of_row w g _ _ _ _ h1]
  exact h3 c hc j hj
theorem SR.cell0 (h : SR T sz w g m cap f) {c : Nat} (hc : c < m) (hj : 0 < sz) : w.cell? ⟨g, c * sz, none⟩ = (f c)[0]? := h.cell (j := 0) hc hj
theorem SR.eq {f' : Nat → List Value} (h : SR T sz w g m cap f) (he : ∀ c, c < m → f' c = f c) : SR T sz w g m cap f' := by
  obtain ⟨cur, h1, h2, h3⟩ := h.z
  exact ⟨h.hm, ⟨cur, h1, h2, fun c hc j hj => by rw [h3 c hc j hj, he c hc]⟩, fun c hc => by rw [he c hc]; exact h.len c hc⟩
theorem SR.set (h : SR T sz w g m cap f) {c j : Nat} (hc : c < m) (hj : j < sz) (u : Value) : SR T sz (w.setCell ⟨g, c * sz + j, none⟩ u) g m cap (upd f c ((f c).set j u)) := by
  obtain ⟨cur, h1, h2, h3⟩ := h.z
  have hin : c * sz + j < cur.size := by
    have : (c + 1) * sz ≤ m * sz := Nat.mul_le_mul_right _ hc
    rw [Nat.add_mul, Nat.one_mul] at this
    omega
  refine ⟨h.hm, ⟨_, heap_setCell_same w g (c * sz + j) _ _ u h1, by simpa using h2, fun c' hc' j' hj' => ?_⟩, fun c' hc' => ?_⟩
  · rw [Array.getElem?_setIfInBounds]
    by_cases hcc : c' = c
    · subst hcc
      rw [upd_same, List.getElem?_set]
      by_cases hjj : j = j'
      · subst hjj
        rw [if_pos rfl, if_pos hin, if_pos rfl, if_pos (by rw [h.len _ hc]; exact hj)]
      · rw [if_neg (by omega), if_neg hjj]
        exact h3 c' hc' j' hj'
    · rw [upd_other _ _ hcc, if_neg (fun e => hcc (by
        have e1 : (c * sz + j) / sz = c := by rw [Nat.mul_comm, Nat.mul_add_div (by omega), Nat.div_eq_of_lt hj]; omega
        have e2 : (c' * sz + j') / sz = c' := by rw [Nat.mul_comm, Nat.mul_add_div (by omega), Nat.div_eq_of_lt hj']; omega
        rw [← e1, ← e2, e]))]
      exact h3 c' hc' j' hj'
  · by_cases hcc : c' = c
    · subst hcc
      rw [upd_same, List.length_set]
      exact h.len _ hc
    · rw [upd_other _ _ hcc]
      exact h.len c' hc'
theorem flat_len {α : Type} (k : α → List Value) (hk : ∀ a, (k a).length = sz) (l : List α) : (l.flatMap k).length = l.length * sz := by
  induction l with
  | nil => simp
  | cons a l ih => rw [List.flatMap_cons, List.length_append, ih, hk, List.length_cons, Nat.add_mul, Nat.one_mul, Nat.add_comm]
theorem flat_get {α : Type} (k : α → List Value) (hk : ∀ a, (k a).length = sz) (d : α) : ∀ (l : List α) (c j : Nat), c < l.length → j < sz → (l.flatMap k)[c * sz + j]? = (k (l.getD c d))[j]?
  | [], c, j, hc, hj => by simp at hc
  | a :: l, 0, j, hc, hj => by
    rw [List.flatMap_cons, Nat.zero_mul, Nat.zero_add, List.getElem?_append_left (by rw [hk]; exact hj)]
    rfl
  | a :: l, c + 1, j, hc, hj => by
    rw [List.flatMap_cons, List.getElem?_append_right (by rw [hk, Nat.add_mul]; omega), hk, show (c + 1) * sz + j - sz = c * sz + j by rw [Nat.add_mul]; omega, flat_get k hk d l c j (by simpa using hc) hj]
    rfl
/-- A row of a call's own as a row of structs. -/
theorem SR.of_own {α : Type} (k : α → List Value) (hk : ∀ a, (k a).length = sz) (d : α) {l : List α} {base : Nat} (h : w.ownsRow base T sz (.slice (some ⟨g, 0, none⟩) m cap) m (l.flatMap k)) (hl : l.length = m) : SR T sz w g m cap (fun i => k (l.getD i d)) := by
  rcases h.2 with ⟨h', _⟩ | ⟨g', cap', cur, h', hb, hg, hnc, hcm, hcs, htake⟩
  · cases h'
  · injection h' with h1 h2 h3
    injection h1 with h1
    injection h1 with h1
    subst h1 h3
    have hle : m * sz ≤ cap * sz := Nat.mul_le_mul_right _ hnc
    refine ⟨⟨hnc, hcm⟩, ⟨cur, hg, by omega, fun c hc j hj => ?_⟩, fun c hc => hk _⟩
    rw [← flat_get k hk d l c j (by omega) hj, ← htake, List.getElem?_take, if_pos (by
      have : (c + 1) * sz ≤ m * sz := Nat.mul_le_mul_right _ hc
      rw [Nat.add_mul, Nat.one_mul] at this
      omega)]
    simp
/-- A row as make leaves it. -/
theorem SR.made {zs : Array Value} {base : Nat} (hz : zs.size = sz) (h : w.ownsRow base T sz (.slice (some ⟨g, 0, none⟩) m cap) m (madeCells zs (m * sz)).toList) : SR T sz w g m cap (fun _ => zs.toList) := by
  rcases h.2 with ⟨h', _⟩ | ⟨g', cap', cur, h', hb, hg, hnc, hcm, hcs, htake⟩
  · cases h'
  · injection h' with h1 h2 h3
    injection h1 with h1
    injection h1 with h1
    subst h1 h3
    have hle : m * sz ≤ cap * sz := Nat.mul_le_mul_right _ hnc
    refine ⟨⟨hnc, hcm⟩, ⟨cur, hg, by omega, fun c hc j hj => ?_⟩, fun c hc => by simpa using hz⟩
    have hin : c * sz + j < m * sz := by
      have : (c + 1) * sz ≤ m * sz := Nat.mul_le_mul_right _ hc
      rw [Nat.add_mul, Nat.one_mul] at this
      omega
    have h2 : cur[c * sz + j]? = (cur.toList.take (m * sz))[c * sz + j]? := by
      rw [List.getElem?_take, if_pos hin]; simp
    have hmod : (c * sz + j) % sz = j := by rw [Nat.add_comm, Nat.add_mul_mod_self_right, Nat.mod_eq_of_lt hj]
    rw [h2, htake]
    unfold madeCells
    simp only [Array.getElem?_toList, Array.getElem?_map, Array.getElem?_range, hz, hmod]
    rw [if_pos hin]
    have hjz : j < zs.size := by omega
    simp [hjz, Nat.mod_eq_of_lt hj]
end
end Go.Proofs.Ytadeghfhjiohnaa.Fa
