/-
  The regions as numbers; a row of marks, set one after the other.
-/
import Derived.Test.YtadeghfhjiohnaaLc
import Derived.Test.YtadeghfhjiohnaaFa
namespace Go.Proofs.Ytadeghfhjiohnaa.Ld
open Go.ChangeShapes Go.WideShapes Go.ChangeAt Go.RowKit Ga Gb La Lb Lc Fa
set_option linter.unusedVariables false
set_option linter.unusedSimpArgs false
set_option maxRecDepth 10000
set_option maxHeartbeats 2000000

/-- The regions: first word and number of words. -/
def E : List (Nat × Nat) := (0, 2) :: (List.range 16).map (fun v => (8 + v, 1)) ++ (List.range 6).flatMap (fun c => [(24 + c, 1), (32 + c, 1), (40 + c, 1), (48 + 120 * c, 1), (49 + 120 * c, 1), (56 + 120 * c, 112)]) ++ (List.range 160).map (fun j => (768 + 8 * j, 8))
theorem E_len : E.length = 213 := by decide +kernel
theorem X3_E : X3 160 = E.map (fun p => ((p.1 : Int), (p.2 : Int))) := by decide +kernel
/-- Marks these words one after the other in a mask of bits; none if one is marked already, or there is no such word. -/
def run : List Nat → Nat → Option Nat
  | [], m => some m
  | a :: l, m => if a < 2048 ∧ m.testBit a = false then run l (m ||| 2 ^ a) else none
def rest (i : Nat) : List Nat := (E.drop i).flatMap fun p => List.range' p.1 p.2
theorem all_run : ∃ F, run (rest 0) 0 = some F ∧ F.testBit 2047 = true := by
  have h : ((run (rest 0) 0).map fun m => m.testBit 2047) = some true := by decide +kernel
  cases hr : run (rest 0) 0 with
  | none => rw [hr] at h; cases h
  | some F => rw [hr] at h; exact ⟨F, rfl, by simpa using h⟩
theorem rest_at (i : Nat) (h : i < 213) : rest i = List.range' (E.getD i (0, 0)).1 (E.getD i (0, 0)).2 ++ rest (i + 1) := by
  have hl : i < E.length := by rw [E_len]; exact h
  unfold rest
  rw [List.drop_eq_getElem_cons hl, List.flatMap_cons, List.getD_eq_getElem?_getD, List.getElem?_eq_getElem hl]
  rfl
theorem rest_end : rest 213 = [] := by decide +kernel
theorem range_at {a n k : Nat} (h : k < n) : List.range' (a + k) (n - k) = (a + k) :: List.range' (a + (k + 1)) (n - (k + 1)) := by
  obtain ⟨m, hm⟩ : ∃ m, n - k = m + 1 := ⟨n - k - 1, by omega⟩
  rw [hm, List.range'_succ, show n - (k + 1) = m by omega, Nat.add_assoc]
theorem run_cons {a m F : Nat} {l : List Nat} (h : run (a :: l) m = some F) : a < 2048 ∧ m.testBit a = false ∧ run l (m ||| 2 ^ a) = some F := by
  unfold run at h
  split at h
  · rename_i hc; exact ⟨hc.1, hc.2, h⟩
  · cases h
/-- Block ub holds the marks of mask m. -/
structure Us (w : World) (ub m : Nat) : Prop where
  z : ∃ cur, w.heap[ub]? = some (.cells cur 33 (0, 0)) ∧ cur.size = 2048 ∧ ∀ j, j < 2048 → cur[j]? = some (.bool (m.testBit j))
section
variable {w w' : World} {ub m : Nat}
theorem Us.lt (h : Us w ub m) : ub < w.heap.size := by obtain ⟨cur, h1, _⟩ := h.z; exact (Array.getElem?_eq_some_iff.1 h1).1
theorem Us.cell (h : Us w ub m) {j : Nat} (hj : j < 2048) : w.cell? ⟨ub, j, none⟩ = some (.bool (m.testBit j)) := by
  obtain ⟨cur, h1, _, h3⟩ := h.z
  rw [cell_of_row w ub _ _ _ _ h1]
  exact h3 j hj
theorem Us.fr (h : Us w ub m) (j : Nat) : w.frozen? ⟨ub, j, none⟩ = false := by
  obtain ⟨cur, h1, _⟩ := h.z
  exact frozen_of_row w ub j _ _ h1
theorem Us.keep (h : Us w ub m) (hb : w'.heap[ub]? = w.heap[ub]?) : Us w' ub m := by
  obtain ⟨cur, h1, h2⟩ := h.z
  exact ⟨⟨cur, hb.trans h1, h2⟩⟩
theorem Us.set (h : Us w ub m) {a : Nat} (ha : a < 2048) : Us (w.setCell ⟨ub, a, none⟩ (.bool true)) ub (m ||| 2 ^ a) := by
  obtain ⟨cur, h1, h2, h3⟩ := h.z
  refine ⟨⟨_, heap_setCell_same w ub a _ _ _ h1, by simpa using h2, fun j hj => ?_⟩⟩
  rw [Array.getElem?_setIfInBounds, Nat.testBit_or, Nat.testBit_two_pow]
  by_cases e : a = j
  · subst e; rw [if_pos rfl, if_pos (by omega)]; simp
  · rw [if_neg e, h3 j hj]; simp [e]
end
def no2048 : Array Value := Array.replicate 2048 (.bool false)
theorem zero_marks (w : World) : (zeroValue 33).run Try.prog w = .ok (.agg no2048) w := by kernel_rfl
theorem Us.new (w : World) : Us (w.alloc (.cells no2048 33)) w.heap.size 0 :=
  ⟨⟨_, heap_alloc_new w _, by simp [no2048], fun j hj => by simp [no2048, hj]⟩⟩
theorem Xr.rows {w0 w : World} {v : Value} (h : Xr w0 w v (X3 160)) : ∃ g c, v = .slice (some ⟨g, 0, none⟩) 213 c ∧ w0.heap.size ≤ g ∧ g < w.heap.size ∧ SR 35 2 w g 213 c (fun i => ec (((E.getD i (0, 0)).1 : Int), ((E.getD i (0, 0)).2 : Int))) := by
  have ho := h.own
  have hl : (X3 160).length = 213 := X3_len 160
  rw [hl] at ho
  rcases ho.2 with ⟨_, h0⟩ | ⟨g, c, cur, rfl, hb, hg, _⟩
  · omega
  · refine ⟨g, c, rfl, hb, (Array.getElem?_eq_some_iff.1 hg).1, (SR.of_own ec (fun _ => rfl) (0, 0) ho hl).eq fun i hi => ?_⟩
    have hi' : i < E.length := by rw [E_len]; exact hi
    rw [X3_E]
    simp [hi']
end Go.Proofs.Ytadeghfhjiohnaa.Ld
