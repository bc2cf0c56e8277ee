/-
  What a law's walk is told of a slice that came in, and what the contracts ask of it.
-/
import Derived.Test.YtfnmgehkalikfaaPe
namespace Go.Proofs.Ytfnmgehkalikfaa.Pf
open Go.ChangeShapes Go.WideShapes Go.ChangeAt Go.RowKit Ma Pa Pb Pc Pd Pe
set_option linter.unusedVariables false
set_option linter.unusedSimpArgs false

/-- A slice of integers that came in: nil, or a row of 'cap' cells, the numbers 'zs' (the first 'len' are its elements), each fitting its kind. -/
def IsRow (k : IntKind) (w : World) (a : Option Addr) (len cap : Nat) (zs : List Int) : Prop :=
  (a = none ∧ len = 0 ∧ cap = 0 ∧ zs = []) ∨
  ∃ x, a = some x ∧ len ≤ cap ∧ cap ≤ maxLen ∧ zs.length = cap ∧ (∀ i, i < zs.length → w.cell? (x.add i) = some (.int k (zs.getD i 0))) ∧ ∀ n ∈ zs, (Lit.int k n).wf = true
/-- Its elements, as natural numbers. -/
def nats (len : Nat) (zs : List Int) : List Nat := (zs.take len).map Int.toNat
theorem IsRow.len {k : IntKind} {w : World} {a : Option Addr} {len cap : Nat} {zs : List Int} (h : IsRow k w a len cap zs) : (nats len zs).length = len ∧ len ≤ cap ∧ cap ≤ maxLen := by
  rcases h with ⟨_, h1, h2, h3⟩ | ⟨x, _, h1, h2, h3, _⟩
  · subst h1 h2 h3; simp [nats, maxLen]
  · exact ⟨by simp [nats]; omega, h1, h2⟩
theorem IsRow.lt {k : IntKind} {w : World} {a : Option Addr} {len cap m : Nat} {zs : List Int} (h : IsRow k w a len cap zs) (hk : ∀ n, (Lit.int k n).wf = true → 0 ≤ n ∧ n < m) : ∀ x ∈ nats len zs, x < m := by
  intro x hx
  unfold nats at hx
  rw [List.mem_map] at hx
  obtain ⟨z, hz, rfl⟩ := hx
  rcases h with ⟨_, h1, h2, h3⟩ | ⟨_, _, _, _, _, _, hwf⟩
  · subst h3; simp at hz
  · have := hk z (hwf z (List.mem_of_mem_take hz)); omega
theorem IsRow.lies {k : IntKind} {w : World} {a : Option Addr} {len cap m : Nat} {zs : List Int} (h : IsRow k w a len cap zs) (hk : ∀ n, (Lit.int k n).wf = true → 0 ≤ n ∧ n < m) : Lies k w w.heap.size a (nats len zs) := by
  intro hn
  have hl := h.len
  rcases h with ⟨_, h1, _, _⟩ | ⟨x, rfl, h1, h2, h3, hc, hwf⟩
  · omega
  · have hcell : ∀ j, j < len → w.cell? (x.add j) = some (.int k (((nats len zs).getD j 0 : Nat) : Int)) := by
      intro j hj
      have hjz : j < zs.length := by omega
      rw [hc j hjz]
      have e : (nats len zs).getD j 0 = (zs[j]).toNat := by simp [nats, hj, hjz]
      have := hk zs[j] (hwf _ (List.getElem_mem _))
      rw [e]
      simp [hjz]; omega
    exact ⟨x, rfl, by have := block_lt_of_cell (hcell 0 (by omega)); rwa [block_of_add] at this, fun j hj => hcell j (by omega)⟩
theorem wf8 (n : Int) (h : (Lit.int .u8 n).wf = true) : 0 ≤ n ∧ n < (256 : Nat) := by have := bounds_u8 h; omega
theorem wf64 (n : Int) (h : (Lit.int .u64 n).wf = true) : 0 ≤ n ∧ n < (18446744073709551616 : Nat) := by have := bounds_u64 h; omega
theorem IsRow.open8 {w : World} {a : Option Addr} {len cap : Nat} {zs : List Int} (h : IsRow .u8 w a len cap zs) :
    ∃ l : List Nat, l.length = len ∧ Hid (∀ x ∈ l, x < 256) ∧ Hid (Lies .u8 w w.heap.size a l) ∧ len ≤ cap ∧ cap ≤ 9223372036854775807 :=
  ⟨nats len zs, h.len.1, h.lt wf8, h.lies wf8, h.len.2.1, h.len.2.2⟩
theorem IsRow.open64 {w : World} {a : Option Addr} {len cap : Nat} {zs : List Int} (h : IsRow .u64 w a len cap zs) :
    ∃ l : List Nat, l.length = len ∧ Hid (∀ x ∈ l, x < 18446744073709551616) ∧ Hid (Lies .u64 w w.heap.size a l) ∧ len ≤ cap ∧ cap ≤ 9223372036854775807 :=
  ⟨nats len zs, h.len.1, h.lt wf64, h.lies wf64, h.len.2.1, h.len.2.2⟩
theorem Lies.on {k : IntKind} {w w' : World} {A : Option Addr} {l : List Nat} (h : Hid (Lies k w w.heap.size A l)) (hb : Hid (Below w.heap.size w w')) : Hid (Lies k w' w'.heap.size A l) :=
  (h.out.below hb.out).more hb.out.size
theorem Below.on {w w1 w2 : World} (h : Hid (Below w.heap.size w w1)) (hb : Below w1.heap.size w1 w2) : Hid (Below w.heap.size w w2) := h.out.trans (hb.mono h.out.size)
end Go.Proofs.Ytfnmgehkalikfaa.Pf
