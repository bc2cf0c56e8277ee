/-
  The program's Pieces.
-/
import Derived.Test.YtadeghfhjiohnaaVr
namespace Go.Proofs.Ytadeghfhjiohnaa.Vg
open Go.ChangeShapes Go.WideShapes Go.ChangeAt Go.RowKit Go.Shelf Ga Va Vb Vd Vf Vr
set_option linter.unusedVariables false
set_option linter.unusedSimpArgs false
set_option maxHeartbeats 4000000
set_option maxRecDepth 10000
attribute [local go_sem] Oper.semAt_some

/-- The cells of a row of pieces. -/
def flat (l : List (Nat × Nat)) : List Value := l.flatMap fun x => [.int .i64 (x.1 : Int), .int .i64 (x.2 : Int)]
theorem flat_more (l : List (Nat × Nat)) (x : Nat × Nat) : flat (l ++ [x]) = flat l ++ [.int .i64 (x.1 : Int), .int .i64 (x.2 : Int)] := by simp [flat]
end Go.Proofs.Ytadeghfhjiohnaa.Vg
