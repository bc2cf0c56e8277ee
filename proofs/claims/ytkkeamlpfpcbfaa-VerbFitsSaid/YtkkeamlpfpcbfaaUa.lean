/-
  Slices of raw records, of completions and of integers that came in: their cells.
-/
import Derived.Test.YtkkeamlpfpcbfaaVk
import Derived.Test.YtkkeamlpfpcbfaaVx
namespace Go.Proofs.Ytkkeamlpfpcbfaa.Ua
open Go.ChangeShapes Go.WideShapes Go.ChangeAt Go.RowKit Go.Deep Ga Va Vk Vx
set_option linter.unusedVariables false
set_option linter.unusedSimpArgs false
/-- The eight numbers of a raw record that lies at cell i of p. -/
def OneRaw (w : World) (p : Addr) (i : Nat) : Prop := ∃ k nd a n ky bo o ne : Int,
  w.cell? (p.add i) = some (.int .i64 k) ∧ w.cell? ⟨(p.add i).block, (p.add i).off + 1, none⟩ = some (.int .i64 nd) ∧ w.cell? ⟨(p.add i).block, (p.add i).off + 2, none⟩ = some (.int .i64 a) ∧ w.cell? ⟨(p.add i).block, (p.add i).off + 3, none⟩ = some (.int .i64 n) ∧
  w.cell? ⟨(p.add i).block, (p.add i).off + 4, none⟩ = some (.int .i64 ky) ∧ w.cell? ⟨(p.add i).block, (p.add i).off + 5, none⟩ = some (.int .i64 bo) ∧ w.cell? ⟨(p.add i).block, (p.add i).off + 6, none⟩ = some (.int .u64 o) ∧ w.cell? ⟨(p.add i).block, (p.add i).off + 7, none⟩ = some (.int .u64 ne) ∧ RawWf k nd a n ky bo o ne
def IsRaws (w : World) (A : Option Addr) (len cap : Nat) : Prop :=
  (A = none ∧ len = 0 ∧ cap = 0) ∨ ∃ p, A = some p ∧ len ≤ cap ∧ cap ≤ 9223372036854775807 ∧ ∀ i, i < len → OneRaw w p (i * 8)
theorem IsRaws.len {w : World} {A : Option Addr} {len cap : Nat} (h : IsRaws w A len cap) : len ≤ cap ∧ cap ≤ 9223372036854775807 := by
  rcases h with ⟨_, h1, h2⟩ | ⟨p, _, h1, h2, _⟩
  · omega
  · exact ⟨h1, h2⟩
theorem IsRaws.at_ {w : World} {A : Option Addr} {len cap i : Nat} (h : IsRaws w A len cap) (hi : i < len) : ∃ p, A = some p ∧ OneRaw w p (i * 8) := by
  rcases h with ⟨_, h1, h2⟩ | ⟨p, h0, h1, h2, h3⟩
  · omega
  · exact ⟨p, h0, h3 i hi⟩
theorem OneRaw.on {w w' : World} {p : Addr} {i : Nat} (h : OneRaw w p i) (hb : Below w.heap.size w w') : OneRaw w' p i := by
  obtain ⟨k, nd, a, n, ky, bo, o, ne, h0, h1, h2, h3, h4, h5, h6, h7, h8⟩ := h
  exact ⟨k, nd, a, n, ky, bo, o, ne, (hb.cell (block_lt_of_cell h0)).trans h0, (hb.cell (block_lt_of_cell h1)).trans h1, (hb.cell (block_lt_of_cell h2)).trans h2, (hb.cell (block_lt_of_cell h3)).trans h3, (hb.cell (block_lt_of_cell h4)).trans h4, (hb.cell (block_lt_of_cell h5)).trans h5, (hb.cell (block_lt_of_cell h6)).trans h6, (hb.cell (block_lt_of_cell h7)).trans h7, h8⟩
/-- A slice of completions. -/
def IsDones (w : World) (A : Option Addr) (len cap : Nat) (us : List Dp) : Prop := us.length = len ∧ len ≤ cap ∧ cap ≤ 9223372036854775807 ∧ DRow w A us ∧ ∀ i (h : i < us.length), us[i].l ≤ 9223372036854775807
theorem list_of {α : Type} {P : Nat → α → Prop} (n : Nat) (h : ∀ i, i < n → ∃ d, P i d) : ∃ us : List α, us.length = n ∧ ∀ i (hi : i < us.length), P i us[i] := by
  induction n with
  | zero => exact ⟨[], rfl, fun i hi => absurd hi (by simp)⟩
  | succ n ih =>
    obtain ⟨us, hl, hu⟩ := ih fun i hi => h i (by omega)
    obtain ⟨d, hd⟩ := h n (by omega)
    refine ⟨us ++ [d], by simp [hl], fun i hi => ?_⟩
    by_cases hin : i < us.length
    · rw [List.getElem_append_left hin]; exact hu i hin
    · obtain rfl : i = n := by simp at hi; omega
      rw [List.getElem_append_right (by omega)]
      simpa [hl] using hd
theorem done_types : (fieldsOf 55).toList.map (·.type) = [31, 23] := by kernel_rfl
theorem done_under : Try.prog.underlying 55 = some (.struct (fieldsOf 55)) := by kernel_rfl
theorem done_one : oneCellFields Try.prog (fieldsOf 55) = true := by kernel_rfl
theorem done_cells : Try.prog.cellsOf 55 = 2 := by kernel_rfl
section
variable {H : Type} {enc : TypeId × Value → H} {w : World} {base : Nat} {held : Bool}
theorem raws_of {fuel : Nat} {A : Option Addr} {len cap : Nat} {x : DataW H × List MemPlace} (h : DataW.trod enc Try.prog w base (fun _ => true) held fuel 51 (Value.slice A len cap).cells.toList = some x) : IsRaws w A len cap := by
  rcases open_slice Try.underlying51 h with ⟨h0, _⟩ | ⟨a, l, c, m, n, D, Pl, hcs, _, hl, hm, hmm, _, hi⟩
  · simp [Value.cells] at h0
    exact .inl h0
  · simp [Value.cells] at hcs
    obtain ⟨rfl, rfl, rfl⟩ := hcs
    refine .inr ⟨a, rfl, hl, hm, fun i hil => ?_⟩
    have hlm : len ≤ m := by rw [hmm]; split <;> omega
    obtain ⟨cs, hc, ht⟩ := hi i (by omega)
    rw [raw_cells] at hc
    obtain ⟨_, hlen, hat⟩ := World.cells?_some hc
    obtain ⟨k, nd, a', n', ky, bo, o, ne, rfl, hw⟩ := raw_at hlen ht
    exact ⟨k, nd, a', n', ky, bo, o, ne, hat 0 (by decide), hat 1 (by decide), hat 2 (by decide), hat 3 (by decide), hat 4 (by decide), hat 5 (by decide), hat 6 (by decide), hat 7 (by decide), hw⟩
theorem dones_of {fuel : Nat} {A : Option Addr} {len cap : Nat} {x : DataW H × List MemPlace} (h : DataW.trod enc Try.prog w base (fun _ => true) held fuel 52 (Value.slice A len cap).cells.toList = some x) : ∃ us, IsDones w A len cap us := by
  rcases open_slice Try.underlying52 h with ⟨h0, _⟩ | ⟨a, l, c, m, n, D, Pl, hcs, _, hl, hm, hmm, _, hi⟩
  · simp [Value.cells] at h0
    obtain ⟨rfl, rfl, rfl⟩ := h0
    exact ⟨[], rfl, Nat.le_refl _, by omega, fun h => absurd h (by simp), fun i hi => absurd hi (by simp)⟩
  · simp [Value.cells] at hcs
    obtain ⟨rfl, rfl, rfl⟩ := hcs
    have hlm : len ≤ m := by rw [hmm]; split <;> omega
    obtain ⟨us, hul, hu⟩ := list_of (P := fun i (d : Dp) => DCells w a i d ∧ d.l ≤ 9223372036854775807) len (fun i hil => by
      obtain ⟨cs, hc, ht⟩ := hi i (by omega)
      rw [done_cells] at hc
      obtain ⟨_, hlen, hat⟩ := World.cells?_some hc
      have key := fields_at done_under done_one done_types hlen ht
      obtain ⟨v0, y0, n0, c0, t0⟩ := key 0 (by decide)
      obtain ⟨v1, y1, n1, c1, t1⟩ := key 1 (by decide)
      obtain ⟨z0, rfl, b0⟩ := int_of Try.underlying31 t0
      obtain ⟨A', l', c', zs, rfl, hr⟩ := words_of t1
      have hll := hr.len
      exact ⟨⟨z0, A', l', c'⟩, ⟨(hat 0 (by decide)).trans c0, (hat 1 (by decide)).trans c1⟩, by have := hll.2; unfold maxLen at this; show l' ≤ _; omega⟩)
    exact ⟨us, hul, hl, hm, fun hp => ⟨a, rfl, fun i hi => (hu i hi).1⟩, fun i hi => (hu i hi).2⟩
theorem nums_of {fuel : Nat} {A : Option Addr} {len cap : Nat} {x : DataW H × List MemPlace} (h : DataW.trod enc Try.prog w base (fun _ => true) held fuel 53 (Value.slice A len cap).cells.toList = some x) : ∃ zs, IsRow .i64 w A len cap zs := by
  rcases open_ints Try.underlying53 Try.underlying3 (by kernel_rfl) h with ⟨hcs, _⟩ | ⟨x, l, c, zs, hcs, _, hl, hm, hz, _, hcell, hwz⟩
  · simp [Value.cells] at hcs
    obtain ⟨rfl, rfl, rfl⟩ := hcs
    exact ⟨[], .inl ⟨rfl, rfl, rfl, rfl⟩⟩
  · simp [Value.cells] at hcs
    obtain ⟨rfl, rfl, rfl⟩ := hcs
    exact ⟨zs, .inr ⟨_, rfl, hl, hm, by simpa using hz, hcell, hwz⟩⟩
end
end Go.Proofs.Ytkkeamlpfpcbfaa.Ua
