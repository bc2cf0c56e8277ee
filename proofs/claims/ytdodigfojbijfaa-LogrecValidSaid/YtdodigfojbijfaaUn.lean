/-
  A slice of integers that came in: its cells.
-/
import Derived.Test.YtdodigfojbijfaaGa
namespace Go.Proofs.Ytdodigfojbijfaa.Un
open Go.ChangeShapes Go.WideShapes Go.ChangeAt Go.RowKit Ga
set_option linter.unusedVariables false
set_option linter.unusedSimpArgs false
section
variable {H : Type} {enc : TypeId × Value → H} {w : World} {base : Nat} {held : Bool}
theorem nums_of {fuel : Nat} {A : Option Addr} {len cap : Nat} {x : DataW H × List MemPlace} (h : DataW.trod enc Try.prog w base (fun _ => true) held fuel 23 (Value.slice A len cap).cells.toList = some x) : ∃ zs, IsRow .i64 w A len cap zs := by
  rcases open_ints Try.underlying23 Try.underlying3 (by kernel_rfl) h with ⟨hcs, _⟩ | ⟨x, l, c, zs, hcs, _, hl, hm, hz, _, hcell, hwz⟩
  · simp [Value.cells] at hcs
    obtain ⟨rfl, rfl, rfl⟩ := hcs
    exact ⟨[], .inl ⟨rfl, rfl, rfl, rfl⟩⟩
  · simp [Value.cells] at hcs
    obtain ⟨rfl, rfl, rfl⟩ := hcs
    exact ⟨zs, .inr ⟨_, rfl, hl, hm, by simpa using hz, hcell, hwz⟩⟩
end
/-- Its element k. -/
theorem num_at {w : World} {A : Option Addr} {len cap k : Nat} {zs : List Int} (h : IsRow .i64 w A len cap zs) (hk : k < len) : ∃ ad, A = some ad ∧ ad.block < w.heap.size ∧ w.cell? (ad.add k) = some (.int .i64 (zs.getD k 0)) ∧ (-9223372036854775808 ≤ zs.getD k 0 ∧ zs.getD k 0 ≤ 9223372036854775807) := by
  rcases h with ⟨_, h1, _, _⟩ | ⟨x, rfl, h1, h2, h3, hc, hwf⟩
  · omega
  · have hkz : k < zs.length := by omega
    refine ⟨x, rfl, by have := block_lt_of_cell (hc k hkz); rwa [block_of_add] at this, hc k hkz, ?_⟩
    have := bounds_i64 (hwf zs[k] (List.getElem_mem _))
    rw [List.getD_eq_getElem?_getD, List.getElem?_eq_getElem hkz]
    exact this
end Go.Proofs.Ytdodigfojbijfaa.Un
