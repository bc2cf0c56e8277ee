/-
  Contracts of package crc's Extend and Bytes: the checksum as plain mathematics.
-/
import Derived.Test.YtdodigfojbijfaaCb
namespace Go.Proofs.Ytdodigfojbijfaa.Cc
open Go.ChangeShapes Go.WideShapes Go.ChangeAt Go.RowKit Ga Ma Ca Cb
set_option linter.unusedVariables false
set_option linter.unusedSimpArgs false

/-- A block that holds the table. -/
def Tab (w : World) (g : Nat) : Prop := w.heap[g]? = some (.cells tabV 83 (0, 0))
theorem Tab.cell {w : World} {g : Nat} (h : Tab w g) (i : Nat) (hi : i < 256) : w.cell? ⟨g, i, none⟩ = some (.int .u64 ((tab i : Nat) : Int)) :=
  (cell_of_row w g i tabV _ _ h).trans (tabV_cell i hi)
theorem Tab.made {w : World} : Tab ((w.alloc (.cells zeros 83)).setRow w.heap.size tabV) w.heap.size := setRow_heap _ _ _ _ _ _ (heap_alloc_new w _)

theorem shift8 (g : Nat) (r : Nat) (w : World) (hg : Tab w g) (h : r < 18446744073709551616) :
    Calls Try.prog 58 #[.pointer (some ⟨g, 0, none⟩), .int .u64 r] w fun e w' => e = .returned (.int .u64 ((steps 8 r : Nat) : Int)) ∧ w = w' := by
  have := shift_any g r w h (tab (r % 256)) (tab_lt (by omega)) (hg.cell _ (by omega))
  rwa [tab_shift] at this

theorem not_ (s : Nat) (h : s < 18446744073709551616) : bits .xor .u64 IntKind.u64.max (s : Int) = ((s ^^^ ones : Nat) : Int) := by
  rw [Nat.xor_comm]
  exact xor_ ones s (by decide) h

end Go.Proofs.Ytdodigfojbijfaa.Cc
