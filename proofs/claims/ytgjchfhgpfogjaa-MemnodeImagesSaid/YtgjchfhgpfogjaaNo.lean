/-
  A slice of operations that came in: its cells.
-/
import Derived.Test.YtgjchfhgpfogjaaNh
import Derived.Deep.Slices
import Derived.Deep.Fields
import Derived.ChangeArms
namespace Go.Proofs.Ytgjchfhgpfogjaa.No
open Go.ChangeShapes Go.WideShapes Go.ChangeAt Go.RowKit Go.Deep Ga
set_option linter.unusedVariables false
set_option linter.unusedSimpArgs false

/-- The five numbers of an operation that lies at cell i of A. -/
def OneOp (w : World) (p : Addr) (i : Nat) : Prop := ∃ (k a c : Int) (x y : Nat),
  w.cell? (p.add i) = some (.int .i64 k) ∧ w.cell? ⟨(p.add i).block, (p.add i).off + 1, none⟩ = some (.int .i64 a) ∧ w.cell? ⟨(p.add i).block, (p.add i).off + 2, none⟩ = some (.int .i64 c) ∧ w.cell? ⟨(p.add i).block, (p.add i).off + 3, none⟩ = some (.int .u64 (x : Int)) ∧ w.cell? ⟨(p.add i).block, (p.add i).off + 4, none⟩ = some (.int .u64 (y : Int)) ∧
  -9223372036854775808 ≤ k ∧ k ≤ 9223372036854775807 ∧ -9223372036854775808 ≤ a ∧ a ≤ 9223372036854775807 ∧ -9223372036854775808 ≤ c ∧ c ≤ 9223372036854775807 ∧ x < 18446744073709551616 ∧ y < 18446744073709551616
/-- A slice of operations: nil, or a row. -/
def IsOps (w : World) (A : Option Addr) (len cap : Nat) : Prop :=
  (A = none ∧ len = 0 ∧ cap = 0) ∨ ∃ p, A = some p ∧ len ≤ cap ∧ cap ≤ 9223372036854775807 ∧ ∀ i, i < len → OneOp w p (i * 5)
theorem IsOps.len {w : World} {A : Option Addr} {len cap : Nat} (h : IsOps w A len cap) : len ≤ cap ∧ cap ≤ 9223372036854775807 := by
  rcases h with ⟨_, h1, h2⟩ | ⟨p, _, h1, h2, _⟩
  · omega
  · exact ⟨h1, h2⟩
theorem IsOps.at_ {w : World} {A : Option Addr} {len cap i : Nat} (h : IsOps w A len cap) (hi : i < len) : ∃ p, A = some p ∧ OneOp w p (i * 5) := by
  rcases h with ⟨_, h1, h2⟩ | ⟨p, h0, h1, h2, h3⟩
  · omega
  · exact ⟨p, h0, h3 i hi⟩
theorem OneOp.on {w w' : World} {p : Addr} {i : Nat} (h : OneOp w p i) (hb : Below w.heap.size w w') : OneOp w' p i := by
  obtain ⟨k, a, c, x, y, h1, h2, h3, h4, h5, h6⟩ := h
  exact ⟨k, a, c, x, y, (hb.cell (block_lt_of_cell h1)).trans h1, (hb.cell (block_lt_of_cell h2)).trans h2, (hb.cell (block_lt_of_cell h3)).trans h3, (hb.cell (block_lt_of_cell h4)).trans h4, (hb.cell (block_lt_of_cell h5)).trans h5, h6⟩

noncomputable def opFields : Array Field := match Try.prog.underlying 37 with | some (.struct fs) => fs | _ => #[]
theorem op_under : Try.prog.underlying 37 = some (.struct opFields) := by kernel_rfl
theorem op_one : oneCellFields Try.prog opFields = true := by kernel_rfl
theorem op_size : opFields.size = 5 := by kernel_rfl
theorem op_types : opFields.toList.map (·.type) = [3, 3, 3, 35, 35] := by kernel_rfl
theorem op_cells : Try.prog.cellsOf 37 = 5 := by kernel_rfl
section
variable {H : Type} {enc : TypeId × Value → H} {w : World} {base : Nat} {spare : Nat → Bool} {held : Bool}
theorem op_type (j : Nat) (hj : j < 5) : ∃ f, opFields[j]? = some f ∧ f.type = ([3, 3, 3, 35, 35] : List TypeId).getD j 0 := by
  have hs := op_size
  refine ⟨opFields[j]'(by omega), Array.getElem?_eq_getElem (by omega), ?_⟩
  rw [← op_types]
  simp [hs, hj]
theorem ops_of {fuel : Nat} {A : Option Addr} {len cap : Nat} {x : DataW H × List MemPlace} (h : DataW.trod enc Try.prog w base spare held fuel 22 (Value.slice A len cap).cells.toList = some x) : IsOps w A len cap := by
  rcases open_slice Try.underlying22 h with ⟨h0, _⟩ | ⟨a, l, c, m, n, D, Pl, hcs, _, hl, hm, hmm, _, hi⟩
  · simp [Value.cells] at h0
    exact .inl h0
  · simp [Value.cells] at hcs
    obtain ⟨rfl, rfl, rfl⟩ := hcs
    refine .inr ⟨a, rfl, hl, hm, fun i hil => ?_⟩
    have hlm : len ≤ m := by rw [hmm]; split <;> omega
    obtain ⟨cs, hc, ht⟩ := hi i (by omega)
    rw [op_cells] at hc
    obtain ⟨_, hlen, hat⟩ := World.cells?_some hc
    obtain ⟨xs, n', _, _, _, hxs, hf⟩ := DataW.trod_struct op_under ht
    have key : ∀ j (hj : j < 5), ∃ v y, w.cell? ((a.add (i * 5)).add j) = some v ∧ DataW.trod enc Try.prog w base spare held n' (([3, 3, 3, 35, 35] : List TypeId).getD j 0) [v] = some y := by
      intro j hj
      obtain ⟨f, hfj, hft⟩ := op_type j hj
      obtain ⟨ho, hk⟩ := hone_of op_one j f hfj
      have h1 := hf j f hfj
      rw [ho, hk] at h1
      have hdrop : (cs.drop j).take 1 = [cs[j]'(by omega)] := by
        rw [List.drop_eq_getElem_cons (by omega)]; rfl
      rw [hdrop, hft] at h1
      have hxl : j < xs.length := by rw [hxs, op_size]; omega
      rw [List.getElem?_eq_getElem hxl] at h1
      exact ⟨_, _, (hat j hj).trans (List.getElem?_eq_getElem (by omega)), h1⟩
    obtain ⟨v0, y0, c0, t0⟩ := key 0 (by decide)
    obtain ⟨v1, y1, c1, t1⟩ := key 1 (by decide)
    obtain ⟨v2, y2, c2, t2⟩ := key 2 (by decide)
    obtain ⟨v3, y3, c3, t3⟩ := key 3 (by decide)
    obtain ⟨v4, y4, c4, t4⟩ := key 4 (by decide)
    obtain ⟨n0, e0, _, b0⟩ := DataW.trod_int Try.underlying3 t0
    obtain ⟨n1, e1, _, b1⟩ := DataW.trod_int Try.underlying3 t1
    obtain ⟨n2, e2, _, b2⟩ := DataW.trod_int Try.underlying3 t2
    obtain ⟨n3, e3, _, b3⟩ := DataW.trod_int Try.underlying35 t3
    obtain ⟨n4, e4, _, b4⟩ := DataW.trod_int Try.underlying35 t4
    simp only [List.cons.injEq, and_true] at e0 e1 e2 e3 e4
    subst e0 e1 e2 e3 e4
    have b3' := wf64 _ b3
    have b4' := wf64 _ b4
    have b0' := bounds_i64 b0
    have b1' := bounds_i64 b1
    have b2' := bounds_i64 b2
    refine ⟨n0, n1, n2, n3.toNat, n4.toNat, c0, c1, c2, ?_, ?_, b0'.1, b0'.2, b1'.1, b1'.2, b2'.1, b2'.2, by omega, by omega⟩
    · refine c3.trans ?_
      congr; omega
    · refine c4.trans ?_
      congr; omega
end
end Go.Proofs.Ytgjchfhgpfogjaa.No
