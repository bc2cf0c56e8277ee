/-
  A pointer to a memory node compared with itself.
-/
import Derived.Test.YtpehhldfegjajaaFk
namespace Go.Proofs.Ytpehhldfegjajaa.Fl
open Go.ChangeShapes Go.WideShapes Go.ChangeAt Go.RowKit Ga
set_option maxRecDepth 100000
set_option linter.unusedSimpArgs false
theorem szn (w : World) : (sizeOf 69).run Try.prog w = .ok 2 w := by kernel_rfl
theorem und (w : World) : (Go.underlying 28).run Try.prog w = .ok (.pointer 69) w := by kernel_rfl
theorem same_a (a : Addr) (w : World) : (sameAddr a a).run Try.prog w = .ok true w := by
  simp [sameAddr]
theorem eq_in (d nb : Nat) (w : World) : (Op.equalIn (d + 1) 28 (.pointer (some ⟨nb, 0, none⟩)) (.pointer (some ⟨nb, 0, none⟩))).run Try.prog w = .ok true w := by
  unfold Op.equalIn
  simp [und, szn, same_a, Result.andThen]
theorem ptr_same (nb : Nat) (w : World) : (binOp BinOp.neq 28 (.pointer (some ⟨nb, 0, none⟩)) (.pointer (some ⟨nb, 0, none⟩))).run Try.prog w = .ok (.bool false) w := by
  have h := eq_in 9999 nb w
  simp only [binOp, Op.equal]
  simp [show Op.maxDepth = 9999 + 1 from rfl, h, Result.andThen]
end Go.Proofs.Ytpehhldfegjajaa.Fl
