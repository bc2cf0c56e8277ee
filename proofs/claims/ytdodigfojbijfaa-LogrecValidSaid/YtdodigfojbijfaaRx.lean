/-
  The texts of stage 8 but for the reference's Parse, together.
-/
import Derived.Test.YtdodigfojbijfaaRw
namespace Go.Proofs.Ytdodigfojbijfaa.Rx
open Go.ChangeShapes Go.WideShapes Go.ChangeAt Go.RowKit Ga Ca Ra
theorem xor_nat (a b : Nat) (ha : a < 18446744073709551616) (hb : b < 18446744073709551616) : bits .xor .u64 (a : Int) (b : Int) = ((a ^^^ b : Nat) : Int) := Ca.xor_ a b ha hb
theorem xor_lt {a b : Nat} (ha : a < 18446744073709551616) (hb : b < 18446744073709551616) : a ^^^ b < 18446744073709551616 := Nat.xor_lt_two_pow (n := 64) ha hb
/-- Two boxes of two cells as calls go on. -/
theorem quad_on {w0 W1 W2 : World} {g h : Nat} {x y z t : Value} (k : W1.cell? ⟨g, 0, none⟩ = some x ∧ W1.cell? ⟨g, 1, none⟩ = some y ∧ W1.cell? ⟨h, 0, none⟩ = some z ∧ W1.cell? ⟨h, 1, none⟩ = some t ∧ Lk (Below w0.heap.size w0 W1)) (hb : Lk (Below W1.heap.size W1 W2)) :
    W2.cell? ⟨g, 0, none⟩ = some x ∧ W2.cell? ⟨g, 1, none⟩ = some y ∧ W2.cell? ⟨h, 0, none⟩ = some z ∧ W2.cell? ⟨h, 1, none⟩ = some t ∧ Lk (Below w0.heap.size w0 W2) :=
  ⟨(hb.out.cell (block_lt_of_cell k.1)).trans k.1, (hb.out.cell (block_lt_of_cell k.2.1)).trans k.2.1, (hb.out.cell (block_lt_of_cell k.2.2.1)).trans k.2.2.1, (hb.out.cell (block_lt_of_cell k.2.2.2.1)).trans k.2.2.2.1, ⟨k.2.2.2.2.out.trans (hb.out.mono k.2.2.2.2.out.size)⟩⟩
theorem quad_below {w0 W1 : World} {g h : Nat} {x y z t : Value} (k : W1.cell? ⟨g, 0, none⟩ = some x ∧ W1.cell? ⟨g, 1, none⟩ = some y ∧ W1.cell? ⟨h, 0, none⟩ = some z ∧ W1.cell? ⟨h, 1, none⟩ = some t ∧ Lk (Below w0.heap.size w0 W1)) : Below w0.heap.size w0 W1 := k.2.2.2.2.out
theorem parse_cases (b : List Nat) : Rk.parseE b 200 = 0 ∨ Rk.parseE b 200 = 14 := by
  unfold Rk.parseE
  rw [if_pos (by decide)]
  split
  · exact .inl rfl
  · exact .inr rfl
end Go.Proofs.Ytdodigfojbijfaa.Rx
